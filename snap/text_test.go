package snap

import (
	"encoding/binary"
	"math"
	"slices"
	"strings"
	"testing"
)

// many is a text of n bytes.
func many(n int) string { return strings.Repeat("m", n) }

// textBytes writes a text once more.
func textBytes(s string) []byte {
	return append(binary.AppendUvarint(nil, uint64(len(s))), s...)
}

// getText is GetText, of which it is also checked that b stays, and that what came out does not hang on it.
func getText(t *testing.T, b []byte, most int) (string, int) {
	t.Helper()
	in := slices.Clone(b)
	s, size := GetText(in, most)
	if !slices.Equal(in, b) {
		t.Errorf("GetText(%.40q, %d) changed it", b, most)
	}
	was := strings.Clone(s)
	fill(in, '!')
	if s != was {
		t.Errorf("GetText(%.40q, %d) hangs on what was handed in", b, most)
	}
	return was, size
}

func checkNoText(t *testing.T, b []byte, most int) {
	t.Helper()
	if s, size := getText(t, b, most); s != "" || size != 0 {
		t.Errorf("GetText(%.40q, %d) is %.40q, %d", b, most, s, size)
	}
}

// checkText: s is written as its number of bytes and itself, behind anything; it is read from there, whatever is behind it, if it may have so many bytes.
func checkText(t *testing.T, s string) {
	t.Helper()
	want := textBytes(s)
	for _, ahead := range [][]byte{nil, {}, {0}, {255}, []byte("ahead")} {
		got := put(t, ahead, func(b []byte) []byte { return PutText(b, s) })
		if !slices.Equal(got, append(slices.Clone(ahead), want...)) {
			t.Errorf("PutText(%v, %.40q) is %.40q", ahead, s, got)
		}
	}
	for _, behind := range []string{"", "\x00", "\xff", "behind"} {
		b := append(slices.Clone(want), behind...)
		for _, most := range []int{len(s), len(s) + 1, len(s) + 1000, math.MaxInt} {
			if got, size := getText(t, b, most); got != s || size != len(want) {
				t.Errorf("GetText(%.40q, %d) is %.40q, %d", b, most, got, size)
			}
		}
		for _, most := range []int{len(s) - 1, len(s) / 2, 0, -1, math.MinInt} {
			if most < len(s) {
				checkNoText(t, b, most)
			}
		}
	}
}

func TestTexts(t *testing.T) {
	for _, s := range []string{"", "a", "ab", "\x00", "\xff", "\x80\x80", "a\nb", "ä€😀", "\xc3", "83"} {
		checkText(t, s)
	}
	for c := range 256 {
		checkText(t, string([]byte{byte(c)}))
		checkText(t, string([]byte{'a', byte(c), 'b'}))
	}
	for _, n := range []int{15, 16, 17, 40, 41, 126, 127, 128, 129, 255, 256, 4095, 4096, 4097, 16383, 16384, 100000} {
		checkText(t, many(n))
	}
}

func TestTextExamples(t *testing.T) {
	if got := PutText(nil, ""); string(got) != "\x00" {
		t.Errorf("the empty text is %q", got)
	}
	if got := PutText([]byte("x"), "ab"); string(got) != "x\x02ab" {
		t.Errorf("the text ab behind x is %q", got)
	}
	if s, n := GetText([]byte("\x02abc"), 2); s != "ab" || n != 3 {
		t.Errorf("of 2 abc %q, %d is told", s, n)
	}
	if s, n := GetText([]byte("\x00"), 0); s != "" || n != 1 {
		t.Errorf("of 0 %q, %d is told", s, n)
	}
}

// TestTextsCutOff: no strict beginning of a text is one.
func TestTextsCutOff(t *testing.T) {
	for _, n := range []int{0, 1, 2, 3, 127, 128, 300} {
		b := textBytes(many(n))
		for i := range b {
			checkNoText(t, b[:i], math.MaxInt)
			checkNoText(t, b[:i], n)
			checkNoText(t, slices.Clip(b[:i]), n)
		}
	}
}

// TestTextsOfGreatNumbers: more bytes are said than there are, also more than an int counts.
func TestTextsOfGreatNumbers(t *testing.T) {
	for bits := range 64 {
		for by := range uint64(5) {
			n := uint64(1)<<bits + by - 2
			for _, there := range []int{0, 1, 5} {
				b := append(binary.AppendUvarint(nil, n), many(there)...)
				if n > uint64(there) {
					checkNoText(t, b, math.MaxInt)
					checkNoText(t, b, there)
				}
			}
		}
	}
}

// TestTextsOfNoNumber: where no number begins, no text does, whatever is there.
func TestTextsOfNoNumber(t *testing.T) {
	above := slices.Repeat([]byte{255}, 9)
	for _, b := range [][]byte{nil, {128}, {128, 0}, {129, 0, 'a'}, {130, 0, 'a', 'b'}, append(above, 2, 'a'), append(above, 129, 0, 'a')} {
		for _, most := range []int{-1, 0, 1, 2, 4096, math.MaxInt} {
			checkNoText(t, b, most)
		}
	}
}

// otherText reads a text once more, of a most of its own.
func otherText(b []byte, most int) (string, int) {
	n, size := otherNumber(b)
	if size == 0 || most < 0 || n > 1000000 || int(n) > most || size+int(n) > len(b) {
		return "", 0
	}
	return string(b[size:][:n]), size + int(n)
}

func TestAllShortTexts(t *testing.T) {
	each([]byte{0, 1, 2, 3, 'a', 128, 255}, 5, func(b []byte) {
		for most := -1; most < 5; most++ {
			want, size := otherText(b, most)
			if s, n := GetText(b, most); s != want || n != size {
				t.Fatalf("GetText(%v, %d) is %q, %d, not %q, %d", b, most, s, n, want, size)
			}
		}
	})
}
