package crc

import (
	"hash/crc32"
	"strings"
	"testing"
)

// published are sums as they are told wherever this CRC is described.
var published = []struct {
	text string
	sum  uint32
}{
	{"", 0x00000000},
	{"a", 0xE8B7BE43},
	{"abc", 0x352441C2},
	{"123456789", 0xCBF43926},
	{"message digest", 0x20159D7F},
	{"abcdefghijklmnopqrstuvwxyz", 0x4C2750BD},
	{"The quick brown fox jumps over the lazy dog", 0x414FA339},
	{strings.Repeat("1234567890", 8), 0x7CA94A72},
	{"\x00\x00\x00\x00", 0x2144DF1C},
	{"\xff\xff\xff\xff", 0xFFFFFFFF},
	{strings.Repeat("\x00", 32), 0x190A55AD},
	{strings.Repeat("\xff", 32), 0xFF6CAB0B},
}

func TestPublished(t *testing.T) {
	for _, p := range published {
		if got := Sum([]byte(p.text)); got != p.sum {
			t.Errorf("%q: %08X, not %08X", p.text, got, p.sum)
		}
	}
}

// byBits is the same sum, bit by bit, as the polynomial says it.
func byBits(b []byte) uint32 {
	sum := ^uint32(0)
	for _, c := range b {
		for k := range 8 {
			bit := (sum ^ uint32(c)>>k) & 1
			sum >>= 1
			if bit == 1 {
				sum ^= 0xEDB88320
			}
		}
	}
	return ^sum
}

// All rows of one and of two bytes, and long ones, as two other readings have them.
func TestOtherReadings(t *testing.T) {
	check := func(b []byte) {
		t.Helper()
		got := Sum(b)
		if got != byBits(b) || got != crc32.ChecksumIEEE(b) {
			t.Fatalf("%.40q of %d bytes: %08X, not %08X", b, len(b), got, crc32.ChecksumIEEE(b))
		}
	}
	for c := range 256 {
		check([]byte{byte(c)})
		for next := range 256 {
			check([]byte{byte(c), byte(next)})
		}
	}
	long := make([]byte, 5000)
	for i := range long {
		long[i] = byte(i*i/7 + i)
		if i%97 == 0 {
			check(long[:i])
		}
	}
	check(long)
}

// In whatever parts bytes are handed in, the sum is that of all of them; they stay as they were.
func TestParts(t *testing.T) {
	const text = "The quick brown fox jumps over the lazy dog"
	want := Sum([]byte(text))
	for i := range len(text) + 1 {
		for k := i; k <= len(text); k++ {
			all := []byte(text)
			if got := Sum(all[:i], all[i:k], nil, all[k:]); got != want || string(all) != text {
				t.Fatalf("parted at %d and %d: %08X, %q", i, k, got, all)
			}
		}
	}
	if Sum() != 0 || Sum(nil, nil) != 0 {
		t.Error("of no bytes it is not 0")
	}
}
