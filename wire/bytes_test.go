package wire

import (
	"slices"
	"testing"

	"scriptorium/api"
)

// checkSame is checkRead without what is checked of memory, for many.
func checkSame(t *testing.T, b []byte) int {
	t.Helper()
	want, at := otherDecode(b)
	m, err := Decode(b)
	if at != fine {
		if f, ok := err.(*api.Fault); !ok || *f != (api.Fault{At: at, Err: api.ErrCode}) || told(m) != told(api.Letter{}) {
			t.Fatalf("Decode(%q) is %+v, not a fault at %d", b, err, at)
		}
		return 0
	}
	again, e := Encode(m)
	if err != nil || told(m) != told(want) || e != api.OK || !slices.Equal(again, b) || !Right(m) {
		t.Fatalf("Decode(%q) is %+v, %s, not %s", b, err, told(m), told(want))
	}
	return 1
}

// eachRow hands out all rows of at most most of these bytes.
func eachRow(bytes []byte, most int, do func(b []byte)) {
	var grow func(b []byte)
	grow = func(b []byte) {
		do(b)
		if len(b) < most {
			for _, c := range bytes {
				grow(append(slices.Clone(b), c))
			}
		}
	}
	grow(nil)
}

// All rows of a few bytes are held against another reading.
func TestAllShortBytes(t *testing.T) {
	taken := 0
	eachRow([]byte{0, 1, 2, 3, 6, 128}, 6, func(b []byte) { taken += checkSame(t, b) })
	for _, head := range []string{"\x01\x01\x02\x02", "\x03\x01\x02\x02\x01\x01\x00\x00", "\x04\x02\x01\x01", "\x05\x02\x01\x02\x02\x01", "\x03\x01\x02\x02\x00\x00\x00\x00\x01\x01", "\x03\x01\x02\x02\x00\x00\x00\x00\x02\x01"} {
		eachRow([]byte{0, 1, 2, 3, 4, 128}, 5, func(b []byte) { taken += checkSame(t, append([]byte(head), b...)) })
	}
	if taken < 300 {
		t.Errorf("only %d were taken", taken)
	}
}

// Each byte of some letters at each place is turned, left out, and put in.
func TestOneByteOther(t *testing.T) {
	taken := 0
	for _, m := range fieldLetters() {
		b, _ := Encode(m)
		for i := range len(b) + 1 {
			for c := range 256 {
				if i < len(b) {
					changed := slices.Clone(b)
					changed[i] = byte(c)
					taken += checkSame(t, changed)
				}
				taken += checkSame(t, slices.Insert(slices.Clone(b), i, byte(c)))
			}
			if i < len(b) {
				taken += checkSame(t, slices.Delete(slices.Clone(b), i, i+1))
			}
		}
	}
	if taken < 1000 {
		t.Errorf("only %d were taken", taken)
	}
}

// Many bytes are drawn: letters of which some bytes are turned, and bytes of no letter.
func TestDecodeOfMany(t *testing.T) {
	taken := 0
	for start := range 3 {
		draw := draws(start)
		for range 30000 {
			b := written(fields(drawnLetter(draw)))
			for range pick(draw, 0, 1, 1, 2, 5) {
				b[draw(len(b))] = byte(pick(draw, 0, 1, 2, 3, 4, 5, 6, 127, 128, 255, draw(256)))
			}
			taken += checkSame(t, b[:len(b)-draw(len(b))*(draw(9)/8)])
			var any []byte
			for range draw(14) {
				any = append(any, byte(pick(draw, 0, 1, 2, 3, 4, 5, draw(256))))
			}
			taken += checkSame(t, any)
		}
	}
	if taken < 20000 {
		t.Errorf("only %d were taken", taken)
	}
}
