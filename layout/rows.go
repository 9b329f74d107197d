package layout

import (
	"slices"
	"strings"
)

// rowsOf tells, for each row of the text, where it is at.
func rowsOf(text string) []int {
	rows := make([]int, len(text)+1)
	for p := range rows {
		rows[p] = p
	}
	// No two ends are of one length, so no two are equal: there is just one order.
	slices.SortFunc(rows, func(p int, q int) int {
		return strings.Compare(text[p:], text[q:])
	})
	return rows
}

// columnOf tells the bytes of all rows but the last row, in the order of the rows.
func columnOf(text string, rows []int) []byte {
	column := make([]byte, 0, len(text))
	for _, at := range rows {
		if at > 0 {
			column = append(column, text[at-1])
		}
	}
	return column
}
