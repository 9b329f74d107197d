package layout

import (
	"slices"

	"rotor/api"
	"rotor/bitrow"
	"rotor/number"
)

// sectionsOf makes the sections of the file, in their order.
func sectionsOf(text string, rate int) [api.Sections][]byte {
	rows := rowsOf(text)
	return [api.Sections][]byte{
		Last:   lastSection(rows),
		Tree:   treeSection(columnOf(text, rows)),
		First:  firstSection(text),
		Marks:  marksSection(rows, rate),
		Places: placesSection(rows, rate),
	}
}

func lastSection(rows []int) []byte {
	return number.Append(nil, uint16(slices.Index(rows, 0)))
}

func treeSection(column []byte) []byte {
	var out []byte
	for level := range api.Levels {
		mask := byte(1) << (api.Levels - 1 - level)
		zeros, ones := split(column, mask)
		out = number.Append(out, uint16(len(zeros)))
		out = appendBits(out, column, mask)
		column = slices.Concat(zeros, ones)
	}
	return out
}

// split parts the column by a bit, and keeps the order on both sides.
func split(column []byte, mask byte) (zeros []byte, ones []byte) {
	for _, c := range column {
		if c&mask == 0 {
			zeros = append(zeros, c)
		} else {
			ones = append(ones, c)
		}
	}
	return zeros, ones
}

// appendBits lays one bit of each byte of the column, and their directory, behind the bytes.
func appendBits(out []byte, column []byte, mask byte) []byte {
	var bits bitrow.Bits[uint16]
	for _, c := range column {
		bits.Add(c&mask != 0)
	}
	return bits.AppendTo(out)
}

func firstSection(text string) []byte {
	var counts [256]uint16
	for i := range len(text) {
		counts[text[i]]++
	}
	var out []byte
	// The empty end is a row ahead of every byte value.
	below := uint16(1)
	for _, count := range counts {
		out = number.Append(out, below)
		below += count
	}
	return out
}

func marksSection(rows []int, rate int) []byte {
	var marks bitrow.Bits[uint16]
	for _, at := range rows {
		marks.Add(IsMarked(at, rate))
	}
	return marks.AppendTo(nil)
}

func placesSection(rows []int, rate int) []byte {
	var out []byte
	for _, at := range rows {
		if IsMarked(at, rate) {
			out = number.Append(out, uint16(at))
		}
	}
	return out
}

// IsMarked tells whether the row at a place is marked.
func IsMarked(at int, rate int) bool {
	return at%rate == 0
}
