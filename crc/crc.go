// Package crc is the CRC-32 of IEEE 802.3, by which bytes that were damaged are told from such as were written.
package crc

// full is what a sum begins from, and what turns it over at its end.
const full = 0xFFFFFFFF

// steps is what each four bits bring in when they are shifted out, by the polynomial EDB88320 in its turned form: a table of whole bytes would be longer than a table may be.
var steps = [16]uint32{
	0x00000000, 0x1DB71064, 0x3B6E20C8, 0x26D930AC,
	0x76DC4190, 0x6B6B51F4, 0x4DB26158, 0x5005713C,
	0xEDB88320, 0xF00F9344, 0xD6D6A3E8, 0xCB61B38C,
	0x9B64C2B0, 0x86D3D2D4, 0xA00AE278, 0xBDBDF21C,
}

// Sum is that of all parts, one behind the other.
func Sum(parts ...[]byte) uint32 {
	sum := uint32(full)
	for _, part := range parts {
		for _, c := range part {
			sum ^= uint32(c)
			sum = sum>>4 ^ steps[sum%16]
			sum = sum>>4 ^ steps[sum%16]
		}
	}
	return sum ^ full
}
