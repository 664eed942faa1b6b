package disk

import (
	"bytes"
	"slices"
	"testing"

	"scriptorium/api"
)

// What is appended is not kept: who owns it may write over it, and finds it as it was.
func TestHandedIn(t *testing.T) {
	d := New(100)
	all := []byte("xyzuvw123")
	answers(t, "Append", d.Append("a", all[:3]), api.OK)
	answers(t, "Append", d.Append("b", all[3:6]), api.OK)
	answers(t, "Append", d.Append("a", []byte("more")), api.OK)
	answers(t, "Append", d.Append("b", []byte("more")), api.OK)
	if string(all) != "xyzuvw123" {
		t.Errorf("what was handed in is %q", all)
	}
	copy(all, "!!!!!!!!!")
	has(t, d, "a", "xyzmore", "b", "uvwmore")

	d.Arm(0, 2)
	answers(t, "Append", d.Append("c", all[:2]), api.ErrOff)
	copy(all, "?????????")
	d.Start()
	has(t, d, "a", "xy", "b", "u", "c", "")
}

// What was read is its owner's: it does not hang on the disk, nor the disk on it.
func TestReadApart(t *testing.T) {
	d := synced(t, 100, "a", "xyzuvw")
	first, _ := d.Read("a")
	second, _ := d.Read("a")
	copy(first, "!!!!!!")
	first = append(first, "!!!!"...)
	has(t, d, "a", "xyzuvw")
	if string(second) != "xyzuvw" {
		t.Errorf("the other one is %q", second)
	}
	answers(t, "Cut", d.Cut("a", 2), api.OK)
	put(t, d, "a", "12345678")
	if string(second) != "xyzuvw" || string(first) != "!!!!!!!!!!" {
		t.Errorf("read were %q and %q", first, second)
	}
	third, _ := d.Read("a")
	_ = append(third[:2], "????????"...)
	_ = append(third, "????????"...)
	has(t, d, "a", "xy12345678")
	put(t, d, "a", "9")
	has(t, d, "a", "xy123456789")
}

func TestFilesApart(t *testing.T) {
	d := synced(t, 100, "a", "x", "b", "y")
	first, second := d.Files(), d.Files()
	first[0] = "c"
	_ = append(first[:1], "d", "e")
	if !slices.Equal(second, []string{"a", "b"}) {
		t.Errorf("the other one is %q", second)
	}
	has(t, d, "a", "x", "b", "y")
}

// No two files share memory, whatever names they had.
func TestFilesShareNothing(t *testing.T) {
	d := New(100)
	put(t, d, "a", "xyz")
	answers(t, "Rename", d.Rename("a", "b"), api.OK)
	put(t, d, "a", "uv")
	answers(t, "Cut", d.Cut("b", 1), api.OK)
	put(t, d, "b", "1", "a", "2", "b", "3", "a", "4")
	has(t, d, "a", "uv24", "b", "x13")
}

// A disk has nothing to do with another one: by turns each is as alone.
func TestTwoDisks(t *testing.T) {
	for start := range 40 {
		rowA, rowB := longRow(start, 60), longRow(start+1000, 60)
		a, b := New(30), New(50)
		var turnsA, turnsB []string
		for i := range rowA {
			turnsA = append(turnsA, told(a, rowA[i]))
			turnsB = append(turnsB, told(b, rowB[i]))
		}
		if !slices.Equal(turnsA, toldRow(New(30), rowA)) || !slices.Equal(turnsB, toldRow(New(50), rowB)) {
			t.Fatalf("row %d: by turns they tell something else", start)
		}
	}
}

// The same calls have the same answers.
func TestSameAgain(t *testing.T) {
	for start := range 40 {
		row := longRow(start, 80)
		once := toldRow(New(60), row)
		for range 3 {
			if !slices.Equal(once, toldRow(New(60), row)) {
				t.Fatalf("row %d: it tells something else", start)
			}
		}
	}
}

// A long file comes and goes as a short one does.
func TestLongFile(t *testing.T) {
	const size = 1 << 20
	d := New(size)
	long := bytes.Repeat([]byte{7}, size)
	answers(t, "Append of one too many", d.Append("a", append(bytes.Clone(long), 7)), api.ErrFull)
	answers(t, "Append", d.Append("a", long), api.OK)
	d.Crash(size - 1)
	d.Start()
	b, err := d.Read("a")
	answers(t, "Read", err, api.OK)
	if !bytes.Equal(b, long[1:]) || d.Used() != size-1 {
		t.Errorf("%d bytes, used %d", len(b), d.Used())
	}
}
