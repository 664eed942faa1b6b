package wire

import (
	"math"
	"slices"
	"testing"

	"scriptorium/api"
)

// noNumbers are bytes with which no number begins, whatever is behind them.
func noNumbers() [][]byte {
	above := slices.Repeat([]byte{255}, 9)
	return [][]byte{{128, 0}, {129, 0}, {255, 0}, {128, 128, 0}, append(above, 2), append(above, 255, 1), append(above, 128, 0)}
}

// fieldLetters have a field of each sort.
func fieldLetters() []api.Letter {
	return append(heads(), some(), installing(), appending(2, 7, 0, 9, 1, grouping(8, 1, 1, 2, 3, 4, 5), grouping(9, 2, 4)))
}

// Each number and each text in its turn is none, at most, too great, or cut off.
func TestDecodeAtEachField(t *testing.T) {
	for _, m := range fieldLetters() {
		l := fields(m)
		for i, f := range l {
			ahead, behind := written(l[:i]), written(l[i+1:])
			at := len(ahead)
			for _, none := range noNumbers() {
				checkFault(t, slices.Concat(ahead, none, behind), at)
			}
			for cut := range f.bytes() {
				checkFault(t, slices.Concat(ahead, f.bytes()[:cut]), at)
			}
			for _, more := range []uint64{1, 2, 256, 1 << 32, 1<<32 - uint64(f.most), math.MaxInt64 - uint64(f.most), math.MaxInt64 - uint64(f.most) + 1, math.MaxUint64 - uint64(f.most)} {
				n := field{number: uint64(f.most) + more}
				checkFault(t, slices.Concat(ahead, n.bytes(), behind), at)
			}
			checkLong(t, l, i)
			checkMost(t, l, i)
		}
	}
}

// checkLong: a text of a byte more than may be is a fault at its own place, also if it is there.
func checkLong(t *testing.T, l []field, i int) {
	t.Helper()
	if l[i].text {
		for more := 1; more < 3; more++ {
			long := replaced(l, i, field{text: true, chars: many(l[i].most + more)})
			checkFault(t, written(long), len(written(l[:i])))
		}
	}
}

// checkMost: a field that is as great as may be is no fault at its own place.
func checkMost(t *testing.T, l []field, i int) {
	t.Helper()
	f := l[i]
	if f.number = uint64(f.most); f.text {
		f.chars = many(f.most)
	}
	b := written(replaced(l, i, f))
	checkRead(t, b)
	// At 0 stands the Kind, but also what is told of a letter that is not right.
	if _, err := Decode(b); i > 0 && err != nil && err.(*api.Fault).At == len(written(l[:i])) {
		t.Errorf("%d is too great for the field %d of the Kind %d", f.most, i, l[0].number)
	}
}

// Of two that are wrong the one ahead is told; of what is wrong and bytes behind it all, or a letter that is not right, what is wrong.
func TestFirstFaultIsTold(t *testing.T) {
	for _, m := range fieldLetters() {
		l := fields(m)
		for i := range l {
			wrong := replaced(l, i, field{number: 1 << 40})
			at := len(written(l[:i]))
			for j := i; j < len(l); j++ {
				for _, f := range []field{{number: 1 << 40}, {text: true, chars: many(9000)}, {number: 0}} {
					if j > i {
						b := written(replaced(wrong, j, f))
						checkFault(t, b, at)
						checkFault(t, append(b, 0), at)
					}
				}
			}
			// The head is not right besides.
			if i > 2 {
				checkFault(t, written(replaced(wrong, 1, field{number: l[2].number})), at)
				checkFault(t, append(written(replaced(wrong, 1, field{number: 0})), 1), at)
			}
		}
	}
}

// A Kind of nought is told behind a bad number of the head, and ahead of all else.
func TestKindNoughtAmongOthers(t *testing.T) {
	for _, m := range fieldLetters() {
		l := replaced(fields(m), 0, field{number: 0})
		checkFault(t, written(l[:4]), 0)
		checkFault(t, written(l), 0)
		checkFault(t, append(written(l), 0), 0)
		for i := 1; i < len(l); i++ {
			at := 0
			if i < 4 {
				at = len(written(l[:i]))
			}
			checkFault(t, written(replaced(l, i, field{number: 1 << 40})), at)
		}
	}
}

// A Kind, a node, a count, an Ok: each small number at each such field.
func TestSmallNumbersAtEachField(t *testing.T) {
	taken := 0
	for _, m := range fieldLetters() {
		l := fields(m)
		for i, f := range l {
			for n := range uint64(130) {
				b := written(replaced(l, i, field{number: n}))
				if n > uint64(f.most) {
					checkFault(t, b, len(written(l[:i])))
				} else if checkRead(t, b) {
					taken++
				}
			}
		}
	}
	if taken < 500 {
		t.Errorf("only %d were taken", taken)
	}
}
