// Package rows: the rows of a text, told by the sections of its file.
package rows

import "rotor/bitrow"

// Rows are the rows of a text of that length, and which of them are marked by that rate.
type Rows struct {
	Length int
	Rate   int
	Last   int
	Tree   Tree
	First  [256]uint16
	Marks  bitrow.Bits[uint16]
	Places []uint16
}

// inColumn tells where the byte of a row stands in the column: how many of the rows ahead of it have a byte.
func (x *Rows) inColumn(row int) int {
	// The last row has none.
	if row > x.Last {
		return row - 1
	}
	return row
}

// Back tells the byte of a row that is not the last row, and the row that is at the byte's place.
func (x *Rows) Back(row int) (c byte, back int) {
	c, equal := x.Tree.At(x.inColumn(row))
	// Rows whose ends begin with one byte stand in the order of what follows it.
	return c, int(x.First[c]) + equal
}

// Piece tells the bytes of the text from a place on up to another one, which is neither ahead of it nor behind the text.
func (x *Rows) Piece(from int, to int) string {
	piece := make([]byte, to-from)
	// The text can be told backwards alone, and of its end the row is known: the empty one is row 0.
	row := 0
	for at := x.Length - 1; at >= from; at-- {
		var c byte
		c, row = x.Back(row)
		if at < to {
			piece[at-from] = c
		}
	}
	return string(piece)
}
