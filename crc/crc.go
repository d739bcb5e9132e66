// Package crc is layer 1: CRC-32 of bytes: see shared/doc/01-crc.md.
package crc

// halves is what four places to the right do to a word, by the four bits that fall out of it.
// Half a byte at a time needs sixteen words written out, where a whole byte would need 256.
var halves = [16]uint32{
	0x00000000, 0x1DB71064, 0x3B6E20C8, 0x26D930AC,
	0x76DC4190, 0x6B6B51F4, 0x4DB26158, 0x5005713C,
	0xEDB88320, 0xF00F9344, 0xD6D6A3E8, 0xCB61B38C,
	0x9B64C2B0, 0x86D3D2D4, 0xA00AE278, 0xBDBDF21C,
}

// Of is the CRC-32 of bytes.
func Of(b []byte) uint32 {
	return More(0, b) // the sum of no bytes is 0
}

// More is that of bytes behind others, by theirs.
func More(sum uint32, b []byte) uint32 {
	word := ^sum // a sum is the word turned over, so turning it back goes on where it ended
	for _, x := range b {
		word ^= uint32(x)
		word = fourPlaces(fourPlaces(word))
	}
	return ^word
}

// All is that of pieces one behind the other.
func All(pieces ...[]byte) uint32 {
	sum := Of(nil)
	for _, p := range pieces {
		sum = More(sum, p)
	}
	return sum
}

// fourPlaces lets a word go right by four places.
func fourPlaces(word uint32) uint32 {
	return word>>4 ^ halves[word&15]
}
