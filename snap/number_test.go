package snap

import (
	"encoding/binary"
	"math"
	"math/big"
	"slices"
	"testing"
)

// putNumber is PutNumber, of which it is also checked that b stays, that the room behind it stays, and that what came out is memory of its own.
func putNumber(t *testing.T, b []byte, n uint64) []byte {
	t.Helper()
	return put(t, b, func(b []byte) []byte { return PutNumber(b, n) })
}

// put does what putNumber says for either Put.
func put(t *testing.T, b []byte, do func([]byte) []byte) []byte {
	t.Helper()
	in := append(slices.Clone(b), slices.Repeat([]byte{7}, 40)...)
	was := slices.Clone(in)
	out := do(in[:len(b)])
	got := slices.Clone(out)
	fill(out[:cap(out)], 9)
	if !slices.Equal(in, was) {
		t.Errorf("Put behind %v changed what was handed in, or shares it", b)
	}
	out = do(in[:len(b)])
	fill(in, 8)
	if !slices.Equal(out, got) {
		t.Errorf("Put behind %v hangs on what was handed in, or tells otherwise once more", b)
	}
	return got
}

func fill[T any](l []T, with T) {
	for i := range l {
		l[i] = with
	}
}

// getNumber is GetNumber, of which it is also checked that b stays.
func getNumber(t *testing.T, b []byte) (uint64, int) {
	t.Helper()
	was := slices.Clone(b)
	n, size := GetNumber(b)
	if !slices.Equal(b, was) {
		t.Errorf("GetNumber(%v) changed it", was)
	}
	return n, size
}

// checkNumber: n is written as these bytes behind anything, and read from them with anything behind; cut off they are none.
func checkNumber(t *testing.T, n uint64, want ...byte) {
	t.Helper()
	for _, ahead := range [][]byte{nil, {}, {0}, {128}, {255, 255}, []byte("ahead")} {
		if got := putNumber(t, ahead, n); !slices.Equal(got, append(slices.Clone(ahead), want...)) {
			t.Errorf("PutNumber(%v, %d) is %v", ahead, n, got)
		}
	}
	for _, behind := range [][]byte{nil, {0}, {1}, {127}, {128}, {255, 255}, []byte("behind")} {
		if got, size := getNumber(t, append(slices.Clone(want), behind...)); got != n || size != len(want) {
			t.Errorf("GetNumber of %v and %v is %d, %d", want, behind, got, size)
		}
	}
	for i := range want {
		checkNoNumber(t, want[:i]...)
	}
}

func checkNoNumber(t *testing.T, b ...byte) {
	t.Helper()
	if n, size := getNumber(t, b); n != 0 || size != 0 {
		t.Errorf("GetNumber(%v) is %d, %d", b, n, size)
	}
}

func TestNumberExamples(t *testing.T) {
	checkNumber(t, 0, 0)
	checkNumber(t, 127, 127)
	checkNumber(t, 128, 128, 1)
	checkNumber(t, 300, 172, 2)
	checkNoNumber(t, 128, 0)
	checkNoNumber(t, 128)
}

func TestNumbersWritten(t *testing.T) {
	checkNumber(t, 1, 1)
	checkNumber(t, 129, 129, 1)
	checkNumber(t, 255, 255, 1)
	checkNumber(t, 16383, 255, 127)
	checkNumber(t, 16384, 128, 128, 1)
	checkNumber(t, 999999, 191, 132, 61)
	checkNumber(t, 1<<32, 128, 128, 128, 128, 16)
	checkNumber(t, 1<<63-1, 255, 255, 255, 255, 255, 255, 255, 255, 127)
	checkNumber(t, 1<<63, 128, 128, 128, 128, 128, 128, 128, 128, 128, 1)
	checkNumber(t, math.MaxUint64, 255, 255, 255, 255, 255, 255, 255, 255, 255, 1)
}

// TestNumberBorders: of each number of bits, and about it.
func TestNumberBorders(t *testing.T) {
	for bits := range 64 {
		for by := range uint64(9) {
			n := uint64(1)<<bits + by - 4
			checkNumber(t, n, binary.AppendUvarint(nil, n)...)
		}
	}
	for bits := 7; bits < 64; bits += 7 {
		if below, above := PutNumber(nil, 1<<bits-1), PutNumber(nil, 1<<bits); len(below) != bits/7 || len(above) != bits/7+1 {
			t.Errorf("below 2^%d there are %d bytes, from there on %d", bits, len(below), len(above))
		}
	}
}

// TestGroupsTooMany: each number with a group of nought behind it, or more of them, is none.
func TestGroupsTooMany(t *testing.T) {
	for bits := range 64 {
		for _, n := range []uint64{0, 1 << bits, 1<<bits - 1, 1<<bits + 1} {
			b := binary.AppendUvarint(nil, n)
			for range 12 {
				b[len(b)-1] += 128
				b = append(b, 0)
				checkNoNumber(t, b...)
				checkNoNumber(t, append(slices.Clone(b), 1, 2, 3)...)
			}
		}
	}
}

// TestNumbersTooGreat: those above 2^64 - 1, by each bit that they may have there.
func TestNumbersTooGreat(t *testing.T) {
	for bits := 64; bits < 100; bits++ {
		for _, by := range []int64{0, 1, 127, 1 << 40} {
			n := new(big.Int).Add(new(big.Int).Lsh(big.NewInt(1), uint(bits)), big.NewInt(by))
			b := groups(n)
			checkNoNumber(t, b...)
			checkNoNumber(t, append(b, 0, 1)...)
		}
	}
	nine := slices.Repeat([]byte{255}, 9)
	for last := range 256 {
		b := append(slices.Clone(nine), byte(last))
		switch n, size := getNumber(t, append(b, 0)); {
		case last == 1 && (n != math.MaxUint64 || size != 10), last != 1 && (n != 0 || size != 0):
			t.Errorf("GetNumber of nine 255 and %d is %d, %d", last, n, size)
		}
	}
}

// groups writes a number of any size in as few groups as can be.
func groups(n *big.Int) []byte {
	if n.BitLen() <= 7 {
		return []byte{byte(n.Uint64())}
	}
	low := new(big.Int).And(n, big.NewInt(127))
	return append([]byte{byte(low.Uint64()) + 128}, groups(new(big.Int).Rsh(n, 7))...)
}

func TestNumbersCutOff(t *testing.T) {
	checkNoNumber(t)
	for n := range 30 {
		checkNoNumber(t, slices.Repeat([]byte{128}, n)...)
		checkNoNumber(t, slices.Repeat([]byte{255}, n)...)
	}
}

// otherNumber reads a number of any bytes once more: written anew it must be the same.
func otherNumber(b []byte) (uint64, int) {
	n, size := binary.Uvarint(b)
	if size <= 0 || len(binary.AppendUvarint(nil, n)) != size {
		return 0, 0
	}
	return n, size
}

// TestAllShortNumbers holds all rows of a few bytes against another reading.
func TestAllShortNumbers(t *testing.T) {
	each([]byte{0, 1, 2, 64, 127, 128, 129, 192, 255}, 6, func(b []byte) {
		want, size := otherNumber(b)
		if n, k := GetNumber(b); n != want || k != size {
			t.Fatalf("GetNumber(%v) is %d, %d, not %d, %d", b, n, k, want, size)
		}
		for _, middle := range []byte{128, 255} {
			long := append(slices.Repeat([]byte{middle}, 7), b...)
			want, size := otherNumber(long)
			if n, k := GetNumber(long); n != want || k != size {
				t.Fatalf("GetNumber(%v) is %d, %d, not %d, %d", long, n, k, want, size)
			}
		}
	})
}

// each hands out all rows of at most most of these bytes; a row is written over behind the call.
func each(of []byte, most int, do func([]byte)) {
	row := make([]byte, 0, most)
	var grow func()
	grow = func() {
		do(row)
		if len(row) == most {
			return
		}
		for _, c := range of {
			row = append(row, c)
			grow()
			row = row[:len(row)-1]
		}
	}
	grow()
}
