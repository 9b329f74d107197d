package loading

import (
	"rotor/layout"
	"rotor/parts"
	"rotor/rows"
)

// lookAtFirst gives up, unless FIRST is told by the column: its bytes are those of the text in another order.
func lookAtFirst(x *rows.Rows) {
	below := 1
	for c, first := range x.First {
		parts.Must(int(first) == below)
		below += x.Tree.Ahead(byte(c), x.Length)
	}
}

// lookAtWalk goes back through the text from row 0, the empty end, and gives up where it meets the last row too early: the rows that are left over then are of no text.
//
// As FIRST is told by the column, no two rows go back to one row, and none to row 0. So the walk meets no row twice, and when it has met all others there is none but the last row to come to: the column is then that of the text it went through.
func lookAtWalk(x *rows.Rows) {
	parts.Must(x.Last <= x.Length)
	row := 0
	for at := x.Length; at > 0; at-- {
		parts.Must(row != x.Last)
		lookAtMark(x, row, at)
		_, row = x.Back(row)
	}
	lookAtMark(x, row, 0)
}

// lookAtMark gives up, unless a row is marked and placed as a row at that place must be.
func lookAtMark(x *rows.Rows, row int, at int) {
	marked := x.Marks.Bit(row)
	parts.Must(marked == layout.IsMarked(at, x.Rate))
	if marked {
		parts.Must(int(x.Places[x.Marks.Ones(row)]) == at)
	}
}
