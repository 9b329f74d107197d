// Package parts: taking a file's parts out of its bytes, and giving it up.
package parts

import "rotor/api"

// givenUp is what is panicked with to end the reading of a file from deep inside: a type of its own, so that no other panic is taken for it.
type givenUp struct {
	why api.Errno
}

// GiveUp ends the reading of a file.
func GiveUp(why api.Errno) {
	panic(givenUp{why})
}

// Must gives the bytes up as no file, unless it holds.
func Must(holds bool) {
	if !holds {
		GiveUp(api.ErrFormat)
	}
}

// Why tells for what reason the reading was given up, from what was recovered. Any other panic goes on.
func Why(recovered any) api.Errno {
	if given, ok := recovered.(givenUp); ok {
		return given.why
	}
	panic(recovered)
}
