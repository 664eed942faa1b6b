package wal

import (
	"scriptorium/api"
	"scriptorium/crc"
)

// How many bytes the parts of a frame ahead of its data have, and a number that is summed along with them.
const (
	lengthBytes = 4
	sumBytes    = 4
	headBytes   = lengthBytes + sumBytes
	numberBytes = 8
)

// frame is a record as it stands in a segment.
func frame(number int, data []byte) []byte {
	f := appendLowFirst(nil, uint64(len(data)), lengthBytes)
	f = appendLowFirst(f, uint64(sumOf(number, data)), sumBytes)
	return append(f, data...)
}

// standing is how many bytes the frame of this number has that stands where b begins; 0, if none does.
func standing(number int, b []byte) int {
	if len(b) < headBytes {
		return 0
	}
	length, sum := lowFirst(b[:lengthBytes]), lowFirst(b[lengthBytes:headBytes])
	if length > api.MaxRecord || length > uint64(len(b)-headBytes) {
		return 0
	}
	end := headBytes + int(length)
	if sum != uint64(sumOf(number, b[headBytes:end])) {
		return 0
	}
	return end
}

// sumOf takes the number along, so that a frame at another one's place does not stand there.
func sumOf(number int, data []byte) uint32 {
	return crc.Sum(appendLowFirst(nil, uint64(number), numberBytes), data)
}

// appendLowFirst writes n in so many bytes, the lowest first.
func appendLowFirst(b []byte, n uint64, size int) []byte {
	for range size {
		b = append(b, byte(n))
		n >>= 8
	}
	return b
}

func lowFirst(b []byte) uint64 {
	var n uint64
	for i, c := range b {
		n |= uint64(c) << (8 * i)
	}
	return n
}
