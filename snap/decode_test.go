package snap

import (
	"errors"
	"math"
	"slices"
	"testing"

	"scriptorium/api"
	"scriptorium/docs"
)

// checkFault: Decode tells nothing but a *api.Fault of ErrCode at this place.
func checkFault(t *testing.T, b []byte, at int) {
	t.Helper()
	s, err := decode(t, b)
	if told(s) != "" {
		t.Errorf("Decode(%.60q) tells\n%.300s", b, told(s))
	}
	f, ok := err.(*api.Fault)
	if !ok || f == nil {
		t.Fatalf("Decode(%.60q) tells %#v, not a fault at %d", b, err, at)
	}
	if *f != (api.Fault{At: at, Err: api.ErrCode}) || !errors.Is(err, api.ErrCode) {
		t.Errorf("Decode(%.60q), of %d bytes, tells %+v, not a fault at %d", b, len(b), *f, at)
	}
}

// checkRead holds Decode against another reading; what it takes is written as the same bytes. It tells whether it takes b.
func checkRead(t *testing.T, b []byte) bool {
	t.Helper()
	want, at := otherDecode(b)
	if at != fine {
		checkFault(t, b, at)
		return false
	}
	s, err := decode(t, b)
	if err != nil || told(s) != told(want) {
		t.Errorf("Decode(%.60q) is %v,\n%.300snot\n%.300s", b, err, told(s), told(want))
	}
	if again, e := encode(t, s); e != api.OK || !slices.Equal(again, b) {
		t.Errorf("what Decode(%.60q) takes is written as %.60q, %v", b, again, e)
	}
	return true
}

func TestDecodeExamples(t *testing.T) {
	checkFault(t, []byte{83, 0}, 2)
	if s, err := decode(t, []byte{83, 0, 0}); err != nil || told(s) != "" {
		t.Errorf("Decode of 83 0 0 is %v, %s", err, told(s))
	}
}

func TestDecodeByHand(t *testing.T) {
	for b, at := range map[string]int{
		"": 0, "R": 0, "s": 0, "T\x00\x00": 0, "\x00S\x00\x00": 0, "\xd3\x00\x00": 0,
		"S": 1, "S\x09": 1, "S\x09\x01a": 1, "S\x80": 1, "S\x80\x00\x00": 1, "S\x80\x01": 1, "S\x88\x80\x80\x80\x10\x00": 1, "S\x08": 2, "SS": 1,
		"S\x01": 2, "S\x01\x01": 2, "S\x01\x80\x00": 2, "S\x01\x02a": 2, "S\x01\x11" + many(17): 2, "S\x01\x11": 2, "S\x01\x10" + many(15): 2, "S\x01\x10" + many(16): 19,
		"S\x01\x01a": 4, "S\x01\x01a\x09": 4, "S\x01\x01a\x88\x00": 4, "S\x01\x01a\x08": 5, "S\x01\x01a\x00": 5,
		"S\x01\x01a\x01\x01": 5, "S\x01\x01a\x01\x11" + many(17): 5, "S\x01\x01a\x01\x10" + many(16): 22,
		"S\x01\x01a\x01\x01d": 7, "S\x01\x01a\x01\x01d\xc0\x84\x3d": 7, "S\x01\x01a\x01\x01d\x81\x80\x00": 7, "S\x01\x01a\x01\x01d\xbf\x84\x3d": 10,
		"S\x01\x01a\x01\x01d\x01": 8, "S\x01\x01a\x01\x01d\x01\x09": 8, "S\x01\x01a\x01\x01d\x01\x08": 9,
		"S\x01\x01a\x01\x01d\x01\x01": 9, "S\x01\x01a\x01\x01d\x01\x01\x01": 9, "S\x01\x01a\x01\x01d\x01\x01\x81\x20" + many(4097): 9, "S\x01\x01a\x01\x01d\x01\x01\x80\x20" + many(4096): 4107,
		"S\x00\x41": 2, "S\x00\x40": 3, "S\x00\xc0\x00": 2, "S\x01\x01a\x00\x01": 6, "S\x01\x01a\x00\x01\x11" + many(17): 6,
		"S\x01\x01a\x00\x01\x01a": 8, "S\x01\x01a\x00\x01\x01a\x29" + many(41): 8, "S\x01\x01a\x00\x01\x01a\x28" + many(40): 49,
		"S\x01\x01a\x00\x01\x01a\x03b/x": 12, "S\x01\x01a\x00\x01\x01a\x03b/x\x04": 12, "S\x01\x01a\x00\x01\x01a\x03b/x\x83\x00": 12,
		"S\x00\x00\x00": 3, "S\x00\x00S\x00\x00": 3, "S\x01\x01a\x00\x01\x01a\x03b/x\x03\x00": 13,
	} {
		checkFault(t, []byte(b), at)
	}
}

// TestDecodeOfWrong: all could be read, but what was read is not right.
func TestDecodeOfWrong(t *testing.T) {
	for _, b := range []string{
		"S\x01\x00\x00\x00", "S\x01\x01A\x00\x00", "S\x02\x01b\x00\x01a\x00\x00", "S\x02\x01a\x00\x01a\x00\x00",
		"S\x01\x01a\x01\x00\x01\x01\x00\x00", "S\x01\x01a\x01\x01d\x00\x00\x00", "S\x01\x01a\x01\x01d\x01\x00\x00", "S\x01\x01a\x01\x01d\x00\x01\x00\x00", "S\x01\x01a\x01\x01d\x01\x02\x00\x00\x00",
		"S\x01\x01a\x00\x01\x01a\x03b/x\x00", "S\x01\x01a\x00\x01\x01a\x03a/x\x01", "S\x01\x01a\x00\x01\x01a\x00\x01", "S\x01\x01a\x00\x01\x01b\x03c/x\x01", "S\x00\x01\x01a\x03b/x\x01",
		"S\x01\x01a\x00\x01\x01a\x22" + many(16) + "/" + many(17) + "\x01", "S\x01\x01a\x00\x01\x01a\x28" + many(40) + "\x01",
		"S\x01\x01a\x00\x02\x01a\x03b/x\x01\x01a\x03b/x\x01", "S\x01\x01a\x00\x02\x01a\x03b/y\x01\x01a\x03b/x\x01",
	} {
		checkFault(t, []byte(b), 0)
		// What stands behind it all is told ahead of that.
		checkFault(t, []byte(b+"\x00"), len(b))
		checkFault(t, []byte(b+b), len(b))
	}
	quota := store(tenant("a", doc("d", 8, slices.Repeat([]string{many(4096)}, 8)...), doc("e", 1, "m")))
	checkFault(t, written(fields(quota)), 0)
	for _, s := range wrongStores() {
		b := written(fields(s))
		if checkRead(t, b) && told(mustRead(b)) == told(s) {
			t.Errorf("what is not right was read: %.300s", told(s))
		}
	}
}

func mustRead(b []byte) api.Store {
	s, _ := Decode(b)
	return s
}

func TestDecodeOfFirstByte(t *testing.T) {
	whole := written(fields(some()))
	for c := range 256 {
		for _, behind := range [][]byte{nil, {0, 0}, {9}, whole[1:], whole} {
			b := append([]byte{byte(c)}, behind...)
			if c != 83 {
				checkFault(t, b, 0)
			} else {
				checkRead(t, b)
			}
		}
	}
}

// noNumbers are bytes with which no number begins, whatever is behind them.
func noNumbers() [][]byte {
	above := slices.Repeat([]byte{255}, 9)
	return [][]byte{{128, 0}, {129, 0}, {255, 0}, {128, 128, 0}, append(above, 2), append(above, 255, 1), append(above, 128, 0)}
}

// TestDecodeAtEachField: each number and each text in its turn is none, at most, too great, or cut off.
func TestDecodeAtEachField(t *testing.T) {
	l := fields(some())
	for i, f := range l {
		ahead, behind := written(l[:i]), written(l[i+1:])[1:]
		at := len(ahead)
		for _, none := range noNumbers() {
			checkFault(t, slices.Concat(ahead, none, behind), at)
		}
		for cut := range f.bytes() {
			checkFault(t, slices.Concat(ahead, f.bytes()[:cut]), at)
		}
		for _, more := range []uint64{1, 2, 1 << 32, 1<<32 - uint64(f.most), math.MaxInt64 - uint64(f.most), math.MaxUint64 - uint64(f.most)} {
			n := field{number: uint64(f.most) + more}
			checkFault(t, slices.Concat(ahead, n.bytes(), behind), at)
			if f.text && more < 3 {
				n = field{text: true, chars: many(f.most + int(more))}
				checkFault(t, slices.Concat(ahead, n.bytes(), behind), at)
			}
		}
		checkMost(t, l, i)
	}
}

// checkMost: a field that is as great as may be is no fault at its own place.
func checkMost(t *testing.T, l []field, i int) {
	t.Helper()
	f := l[i]
	f.number, f.chars = uint64(f.most), many(f.most)
	b := written(with(l, i, f))
	checkRead(t, b)
	if _, err := Decode(b); err != nil && err.(*api.Fault).At == len(written(l[:i])) {
		t.Errorf("%d is too great for the field %d", f.most, i)
	}
}

// TestFirstFaultIsTold: of two that are wrong the one ahead; of what is wrong and bytes behind it all, or a store that is not right, what is wrong.
func TestFirstFaultIsTold(t *testing.T) {
	s := some()
	s.Tenants[0].Name = "wrong/"
	l := fields(s)
	for i := range l {
		wrong := with(l, i, field{number: 1 << 40})
		for j := i; j < len(l); j++ {
			b := written(with(wrong, j, field{number: 1 << 40}))
			checkFault(t, b, len(written(l[:i])))
			checkFault(t, append(b, 0), len(written(l[:i])))
		}
	}
	checkFault(t, written(l), 0)
	checkFault(t, append(written(l), 1), len(written(l)))
}

func TestDecodeOfBytesBehind(t *testing.T) {
	for _, s := range rightStores() {
		b, _ := Encode(s)
		for _, behind := range []string{"\x00", "\x01", "S", "\xff", "S\x00\x00", many(1000)} {
			checkFault(t, append(slices.Clone(b), behind...), len(b))
		}
	}
}

// TestNoBeginning: no strict beginning of an Encode is one; the place is where the field begins that is cut off.
func TestNoBeginning(t *testing.T) {
	for _, s := range []api.Store{{}, some(), granted()} {
		b, _ := Encode(s)
		for n := range b {
			if _, at := otherDecode(b[:n]); at == fine || at > n {
				t.Fatalf("the other reading is at %d of %d bytes", at, n)
			}
			checkRead(t, b[:n])
		}
	}
	b, _ := Encode(full())
	for n := 0; n < len(b); n += 1 + n%509 {
		if checkRead(t, b[:n]) {
			t.Fatalf("%d of %d bytes were taken", n, len(b))
		}
	}
}

// TestAllShortBytes holds all rows of a few bytes against another reading.
func TestAllShortBytes(t *testing.T) {
	taken := 0
	each([]byte{0, 1, 2, 9, 'a', 'b', 128}, 6, func(b []byte) {
		taken += one(checkSame(t, append([]byte("S"), b...)))
	})
	if taken < 3 {
		t.Errorf("only %d were taken", taken)
	}
}

// TestOneByteOther changes, leaves out and puts in each byte at each place of some stores.
func TestOneByteOther(t *testing.T) {
	taken := 0
	for _, s := range []api.Store{some(), granted(), store(tenant("a", doc("d", 300, "xy", "")))} {
		b, _ := Encode(s)
		for i := range len(b) + 1 {
			for c := range 256 {
				if i < len(b) {
					changed := slices.Clone(b)
					changed[i] = byte(c)
					taken += one(checkSame(t, changed))
				}
				taken += one(checkSame(t, slices.Insert(slices.Clone(b), i, byte(c))))
			}
			if i < len(b) {
				taken += one(checkSame(t, slices.Delete(slices.Clone(b), i, i+1)))
			}
		}
	}
	if taken < 1000 {
		t.Errorf("only %d were taken", taken)
	}
}

func one(b bool) int {
	if b {
		return 1
	}
	return 0
}

// checkSame is checkRead without what is checked of memory, for many.
func checkSame(t *testing.T, b []byte) bool {
	t.Helper()
	want, at := otherDecode(b)
	s, err := Decode(b)
	if at != fine {
		if f, ok := err.(*api.Fault); !ok || *f != (api.Fault{At: at, Err: api.ErrCode}) || told(s) != "" {
			t.Fatalf("Decode(%q) is %+v, not a fault at %d", b, err, at)
		}
		return false
	}
	again, e := Encode(s)
	if err != nil || told(s) != told(want) || e != api.OK || !slices.Equal(again, b) || !docs.Right(s) {
		t.Fatalf("Decode(%q) is %+v\n%snot\n%s", b, err, told(s), told(want))
	}
	return true
}
