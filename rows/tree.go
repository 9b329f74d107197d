package rows

import (
	"rotor/api"
	"rotor/bitrow"
)

// Level is one level of a tree: how many of its bits are 0, and its bits.
type Level struct {
	Zeros int
	Bits  bitrow.Bits[uint16]
}

// Tree tells the column by its levels.
type Tree [api.Levels]Level

// next tells where what stands at a place of the level, and has that bit, stands in the order behind it.
func (l *Level) next(place int, bit bool) int {
	ones := l.Bits.Ones(place)
	if bit {
		return l.Zeros + ones
	}
	return place - ones
}

// At tells the byte at a place of the column, and how many ahead of it are equal to it.
func (t *Tree) At(place int) (c byte, equal int) {
	// Bytes that are equal go the same way: start goes on where the first of them would stand.
	start := 0
	for k := range t {
		level := &t[k]
		bit := level.Bits.Bit(place)
		c <<= 1
		if bit {
			c |= 1
		}
		start, place = level.next(start, bit), level.next(place, bit)
	}
	return c, place - start
}

// Ahead tells how many bytes of the column ahead of a place are c.
func (t *Tree) Ahead(c byte, place int) int {
	start := 0
	for k := range t {
		level := &t[k]
		bit := c>>(api.Levels-1-k)&1 == 1
		start, place = level.next(start, bit), level.next(place, bit)
	}
	return place - start
}
