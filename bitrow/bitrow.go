// Package bitrow: bits with their directory.
package bitrow

import (
	"rotor/api"
	"rotor/number"
)

// Bits are bits in their bytes, and their directory, of numbers of the type N. The zero value has no bits.
type Bits[N number.Unsigned] struct {
	packed []byte
	ahead  []N
	count  int
	ones   N
}

// Add puts a bit behind the others.
func (b *Bits[N]) Add(bit bool) {
	if b.count%8 == 0 {
		b.packed = append(b.packed, 0)
	}
	// Ahead of the bit itself: a directory counts the bits in front of its place alone.
	if b.count%api.Block == 0 {
		b.ahead = append(b.ahead, b.ones)
	}
	if bit {
		b.packed[b.count/8] |= 1 << (b.count % 8)
		b.ones++
	}
	b.count++
}

// AppendTo lays the bits and then their directory behind the bytes.
func (b *Bits[N]) AppendTo(out []byte) []byte {
	return number.AppendAll(append(out, b.packed...), b.ahead)
}
