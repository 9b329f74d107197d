// Package bitrow: bits with their directory.
package bitrow

import (
	"math/bits"
	"slices"

	"rotor/api"
	"rotor/number"
	"rotor/parts"
)

// Bits are bits in their bytes, and their directory, of numbers of the type N. The zero value has no bits.
type Bits[N number.Unsigned] struct {
	packed []byte
	ahead  []N
	count  int
	ones   N
}

// Take takes so many bits and their directory out of a file, as they stand there: whether they agree is asked of them later.
func Take[N number.Unsigned](r *parts.Reader, count int) Bits[N] {
	b := Bits[N]{
		// A copy: bits are kept longer than the file.
		packed: slices.Clone(r.Bytes((count + 7) / 8)),
		ahead:  parts.Numbers[N](r, (count+api.Block-1)/api.Block),
		count:  count,
	}
	for k := range count {
		if b.Bit(k) {
			b.ones++
		}
	}
	return b
}

// Add puts a bit behind the others.
func (b *Bits[N]) Add(bit bool) {
	if b.count%8 == 0 {
		b.packed = append(b.packed, 0)
	}
	// Ahead of the bit itself: a directory counts the bits in front of its place alone.
	if b.count%api.Block == 0 {
		b.ahead = append(b.ahead, b.ones)
	}
	if bit {
		b.packed[b.count/8] |= 1 << (b.count % 8)
		b.ones++
	}
	b.count++
}

// AppendTo lays the bits and then their directory behind the bytes.
func (b *Bits[N]) AppendTo(out []byte) []byte {
	return number.AppendAll(append(out, b.packed...), b.ahead)
}

// Agree tells whether the bits behind the last one are 0 and the directory is that of the bits.
func (b *Bits[N]) Agree() bool {
	var again Bits[N]
	for k := range b.count {
		again.Add(b.Bit(k))
	}
	return slices.Equal(b.packed, again.packed) && slices.Equal(b.ahead, again.ahead)
}

// Bit tells bit k.
func (b *Bits[N]) Bit(k int) bool {
	return b.packed[k/8]>>(k%8)&1 == 1
}

// Ones tells how many of the bits ahead of bit k are 1: of all of them, if k is their number.
func (b *Bits[N]) Ones(k int) int {
	// The directory need not have a number for the place behind the last bit.
	if k == b.count {
		return int(b.ones)
	}
	block := k / api.Block
	ones := int(b.ahead[block])
	for _, whole := range b.packed[block*api.Block/8 : k/8] {
		ones += bits.OnesCount8(whole)
	}
	return ones + bits.OnesCount8(b.packed[k/8]&(1<<(k%8)-1))
}

// Zeros tells how many of the bits are 0.
func (b *Bits[N]) Zeros() int {
	return b.count - int(b.ones)
}
