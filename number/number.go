// Package number: the numbers of a file, of one, two and four bytes, and the check sum of bytes.
package number

import "math/bits"

// Unsigned are the types of the numbers that stand in a file: a type's width is the number's.
type Unsigned interface {
	uint8 | uint16 | uint32
}

// Width tells how many bytes a number of the type takes.
func Width[N Unsigned]() int {
	return bits.Len64(uint64(^N(0))) / 8
}

// Append lays a number behind the bytes, its low byte first.
func Append[N Unsigned](out []byte, value N) []byte {
	// A shift by 8 is no shift of the one-byte type: the widest type is shifted in its place.
	rest := uint64(value)
	for range Width[N]() {
		out = append(out, byte(rest))
		rest >>= 8
	}
	return out
}

// AppendAll lays numbers behind the bytes, one behind the other.
func AppendAll[N Unsigned](out []byte, values []N) []byte {
	for _, value := range values {
		out = Append(out, value)
	}
	return out
}

// Read tells the number that the bytes begin with: they are no fewer than its width.
func Read[N Unsigned](data []byte) N {
	value := uint64(0)
	for k := range Width[N]() {
		value |= uint64(data[k]) << (8 * k)
	}
	return N(value)
}

// CheckSum tells the check sum of bytes.
func CheckSum(data []byte) uint32 {
	sum := uint32(0)
	for _, b := range data {
		// The 1 more tells zero bytes apart from none; the wrap-round is the modulo 2^32.
		sum = sum*65599 + uint32(b) + 1
	}
	return sum
}
