package loading

import (
	"rotor/api"
	"rotor/bitrow"
	"rotor/layout"
	"rotor/number"
	"rotor/parts"
)

// section is what was taken out of the bytes of a section: its numbers, but for those of directories, and its bits; behind is the reader that took them.
type section struct {
	data    []byte
	behind  *parts.Reader
	numbers []uint16
	bits    []bitrow.Bits[uint16]
}

// takeNumbers is how LAST, FIRST and PLACES are taken.
func takeNumbers(data []byte, count int) section {
	r := parts.NewReader(data)
	return section{data: data, behind: r, numbers: parts.Numbers[uint16](r, count)}
}

func takeTree(data []byte, length int) section {
	r := parts.NewReader(data)
	s := section{data: data, behind: r}
	for range api.Levels {
		s.numbers = append(s.numbers, parts.Number[uint16](r))
		s.bits = append(s.bits, bitrow.Take[uint16](r, length))
	}
	return s
}

func takeMarks(data []byte, rows int) section {
	r := parts.NewReader(data)
	return section{data: data, behind: r, bits: []bitrow.Bits[uint16]{bitrow.Take[uint16](r, rows)}}
}

// look gives up, unless the section is as it must be whatever stands in the others. What one kind must be looked at for, those that have more to them must be too.
func (s *section) look(kind int, sum uint32) {
	switch kind {
	case layout.Tree:
		s.lookAtZeros()
		fallthrough
	case layout.Marks:
		s.lookAtBits()
		fallthrough
	default:
		s.behind.End()
		parts.Must(number.CheckSum(s.data) == sum)
	}
}

func (s *section) lookAtZeros() {
	for k := range s.bits {
		parts.Must(int(s.numbers[k]) == s.bits[k].Zeros())
	}
}

func (s *section) lookAtBits() {
	for k := range s.bits {
		parts.Must(s.bits[k].Agree())
	}
}
