// Package layout: the file of a text by a rate, byte for byte.
package layout

import (
	"rotor/api"
	"rotor/number"
)

// Sign is what every file begins with.
const Sign = "RTX1"

const headBytes = len(Sign) + 2 + 1 + 1 + 4

// The sections, in their order.
const (
	Last = iota
	Tree
	First
	Marks
	Places
)

// IsText tells whether it may be a text.
func IsText(text string) bool {
	return len(text) <= api.MaxText
}

// IsRate tells whether it is one of the rates.
func IsRate(rate int) bool {
	switch rate {
	case 1, 2, 4, 8:
		return true
	}
	return false
}

// File makes the file of a text by a rate: IsText and IsRate hold of them.
func File(text string, rate int) string {
	var table, body []byte
	for _, section := range sectionsOf(text, rate) {
		table = number.Append(table, uint16(len(section)))
		table = number.Append(table, number.CheckSum(section))
		body = append(body, section...)
	}
	size := headBytes + len(table) + len(body)
	out := headOf(len(text), rate, size)
	out = append(out, table...)
	out = append(out, body...)
	return string(out)
}

func headOf(length int, rate int, size int) []byte {
	out := []byte(Sign)
	out = number.Append(out, uint16(length))
	out = number.Append(out, uint8(rate))
	out = number.Append(out, uint8(api.Sections))
	return number.Append(out, uint32(size))
}
