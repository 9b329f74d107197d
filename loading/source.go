// Package loading: from a source to the rows of the text whose file it is. What it can't take it gives up.
package loading

import (
	"rotor/api"
	"rotor/parts"
)

// Bytes reads a source from its beginning to its end.
func Bytes(s *api.Source) []byte {
	size := s.Size()
	file := make([]byte, 0, size)
	empty := 0
	for len(file) < size {
		piece, ok := s.Read(len(file), min(api.MaxRead, size-len(file)))
		empty++
		if len(piece) > 0 {
			empty = 0
		}
		if !ok || empty == api.MaxTries {
			parts.GiveUp(api.ErrIO)
		}
		file = append(file, piece...)
	}
	return file
}
