// Package rotor: an index of a text, as a file: see DOC.md.
package rotor

import (
	"rotor/api"
	"rotor/layout"
	"rotor/loading"
	"rotor/parts"
	"rotor/rows"
)

// Index answers about a text.
type Index struct {
	rows *rows.Rows
}

// Build makes the file of a text (P3).
func Build(text string, rate int) (string, api.Errno) {
	if !layout.IsText(text) || !layout.IsRate(rate) {
		return "", api.ErrArg
	}
	return layout.File(text, rate), api.OK
}

// Load reads a file (P4).
func Load(s *api.Source) (x *Index, e api.Errno) {
	if s == nil {
		return nil, api.ErrArg
	}
	if s.Size() > api.MaxFile {
		return nil, api.ErrLarge
	}
	defer func() {
		if recovered := recover(); recovered != nil {
			x, e = nil, parts.Why(recovered)
		}
	}()
	return &Index{rows: loading.Rows(loading.Bytes(s))}, api.OK
}

// Len tells how long the text is (P6).
func (x *Index) Len() int {
	if x.isNone() {
		return 0
	}
	return x.rows.Length
}

// Rate tells the rate (P6).
func (x *Index) Rate() int {
	if x.isNone() {
		return 0
	}
	return x.rows.Rate
}

// Extract tells a piece of the text (P6).
func (x *Index) Extract(from int, to int) (string, api.Errno) {
	if x.isNone() || from < 0 || to < from || to > x.rows.Length {
		return "", api.ErrArg
	}
	return x.rows.Piece(from, to), api.OK
}

// Count tells how often something stands in the text (P7).
func (x *Index) Count(p string) int {
	if x.isNone() {
		return 0
	}
	return x.rows.Count(p)
}

// Locate tells where it stands (P8).
func (x *Index) Locate(p string, most int) ([]int, api.Errno) {
	if x.isNone() || most < 0 {
		return nil, api.ErrArg
	}
	return x.rows.Locate(p, most), api.OK
}

// isNone tells whether there is no text: with an error Load gives nil, and to ask that must not panic (P1).
func (x *Index) isNone() bool {
	return x == nil || x.rows == nil
}
