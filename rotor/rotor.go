// Package rotor: an index of a text, as a file: see DOC.md.
package rotor

import (
	"rotor/api"
	"rotor/layout"
)

// Index answers about a text.
type Index struct{}

// Build makes the file of a text (P3).
func Build(text string, rate int) (string, api.Errno) {
	if !layout.IsText(text) || !layout.IsRate(rate) {
		return "", api.ErrArg
	}
	return layout.File(text, rate), api.OK
}

// Load reads a file (P4).
func Load(s *api.Source) (*Index, api.Errno) { return nil, api.OK }

// Len tells how long the text is (P6).
func (x *Index) Len() int { return 0 }

// Rate tells the rate (P6).
func (x *Index) Rate() int { return 0 }

// Extract tells a piece of the text (P6).
func (x *Index) Extract(from int, to int) (string, api.Errno) { return "", api.OK }

// Count tells how often something stands in the text (P7).
func (x *Index) Count(p string) int { return 0 }

// Locate tells where it stands (P8).
func (x *Index) Locate(p string, most int) ([]int, api.Errno) { return nil, api.OK }
