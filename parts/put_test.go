package parts

import (
	"slices"
	"testing"

	"scriptorium/api"
)

// puts: put writes this behind anything, and neither what is ahead nor the room behind that is written over.
func puts(t *testing.T, want string, put func(b []byte) []byte) {
	t.Helper()
	for _, ahead := range []string{"", "a", "\xff\x80", "ahead"} {
		in := append([]byte(ahead), "room behind"...)
		was := slices.Clone(in)
		if got := put(in[:len(ahead)]); string(got) != ahead+want {
			t.Errorf("behind %q there is %q, not %q", ahead, got, want)
		}
		if !slices.Equal(in, was) {
			t.Errorf("it is %q now, not %q", in, was)
		}
	}
	if got := put(nil); string(got) != want {
		t.Errorf("there is %q, not %q", got, want)
	}
}

func numbers(l ...int) func(b []byte) []byte {
	return func(b []byte) []byte { return PutNumbers(b, l...) }
}

func group(nodes ...int) func(b []byte) []byte {
	return func(b []byte) []byte { return PutGroup(b, nodes) }
}

func TestPutNumbers(t *testing.T) {
	puts(t, "", numbers())
	puts(t, "\x00", numbers(0))
	puts(t, "\x01\x7f\x80\x01\xbf\x84\x3d\x00", numbers(1, 127, 128, 999999, 0))
	puts(t, "\x80\x80\x80\x80\x04\x05", numbers(1<<30, 5))
}

func TestPutGroup(t *testing.T) {
	puts(t, "\x00", group())
	puts(t, "\x01\x05", group(5))
	puts(t, "\x05\x01\x02\x03\x04\x05", group(1, 2, 3, 4, 5))
}

func TestPutSnap(t *testing.T) {
	for want, x := range map[string]api.Snap{
		"\x01\x00\x01\x01\x00":                                                 {Index: 1, Nodes: []int{1}},
		"\x80\x01\x07\x03\x01\x02\x04\x03abc":                                  {Index: 128, Term: 7, Nodes: []int{1, 2, 4}, Data: []byte("abc")},
		"\xbe\x84\x3d\xbf\x84\x3d\x01\x05\xac\x02" + string(make([]byte, 300)): {Index: 999998, Term: 999999, Nodes: []int{5}, Data: make([]byte, 300)},
	} {
		puts(t, want, func(b []byte) []byte { return PutSnap(b, x) })
	}
}
