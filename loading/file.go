package loading

import (
	"rotor/api"
	"rotor/layout"
	"rotor/parts"
	"rotor/rows"
)

// file is a file that is being taken apart.
type file struct {
	length   int
	rate     int
	sizes    [api.Sections]int
	sums     [api.Sections]uint32
	sections [api.Sections]section
}

// Rows takes a file apart, and gives it up if it is the file of no text.
func Rows(data []byte) *rows.Rows {
	var f file
	r := parts.NewReader(data)
	f.takeHead(r, len(data))
	f.takeTable(r)
	for kind := range f.sections {
		f.sections[kind] = f.take(kind, r.Bytes(f.sizes[kind]))
		f.sections[kind].look(kind, f.sums[kind])
	}
	r.End()
	x := f.rows()
	lookAtFirst(x)
	lookAtWalk(x)
	return x
}

func (f *file) takeHead(r *parts.Reader, size int) {
	parts.Must(string(r.Bytes(len(layout.Sign))) == layout.Sign)
	f.length = int(parts.Number[uint16](r))
	f.rate = int(parts.Number[uint8](r))
	parts.Must(f.length <= api.MaxText && layout.IsRate(f.rate))
	parts.Must(parts.Number[uint8](r) == api.Sections)
	parts.Must(parts.Number[uint32](r) == uint32(size))
}

func (f *file) takeTable(r *parts.Reader) {
	for kind := range f.sections {
		f.sizes[kind] = int(parts.Number[uint16](r))
		f.sums[kind] = parts.Number[uint32](r)
	}
}

// take takes a section apart. The sections ahead of it have been taken.
func (f *file) take(kind int, data []byte) section {
	switch kind {
	case layout.Last:
		return takeNumbers(data, 1)
	case layout.Tree:
		return takeTree(data, f.length)
	case layout.First:
		return takeNumbers(data, 256)
	case layout.Marks:
		return takeMarks(data, f.length+1)
	default:
		return takeNumbers(data, f.sections[layout.Marks].bits[0].Ones(f.length+1))
	}
}

func (f *file) rows() *rows.Rows {
	x := &rows.Rows{
		Length: f.length,
		Rate:   f.rate,
		Last:   int(f.sections[layout.Last].numbers[0]),
		First:  [256]uint16(f.sections[layout.First].numbers),
		Marks:  f.sections[layout.Marks].bits[0],
		Places: f.sections[layout.Places].numbers,
	}
	tree := &f.sections[layout.Tree]
	for k := range x.Tree {
		x.Tree[k] = rows.Level{Zeros: int(tree.numbers[k]), Bits: tree.bits[k]}
	}
	return x
}
