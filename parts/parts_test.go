package parts_test

import (
	"bytes"
	"slices"
	"testing"

	"rotor/api"
	"rotor/parts"
)

// whyOf tells for what reason something gives up; OK: it does not.
func whyOf(call func()) (why api.Errno) {
	defer func() {
		if recovered := recover(); recovered != nil {
			why = parts.Why(recovered)
		}
	}()
	call()
	return api.OK
}

func TestGiveUp(t *testing.T) {
	for _, why := range []api.Errno{api.ErrIO, api.ErrFormat} {
		if got := whyOf(func() { parts.GiveUp(why) }); got != why {
			t.Errorf("given up for %d: %d", why, got)
		}
	}
	if why := whyOf(func() { parts.Must(false) }); why != api.ErrFormat {
		t.Errorf("what does not hold: %d", why)
	}
	if why := whyOf(func() { parts.Must(true) }); why != api.OK {
		t.Errorf("what holds: %d", why)
	}
}

// TestOtherPanicsGoOn: what is no giving up is panicked with again, as it was.
func TestOtherPanicsGoOn(t *testing.T) {
	for _, other := range []any{"other", 3, api.ErrFormat, struct{ why api.Errno }{api.ErrIO}} {
		func() {
			defer func() {
				if again := recover(); again != other {
					t.Errorf("%v goes on as %v", other, again)
				}
			}()
			whyOf(func() { panic(other) })
			t.Errorf("%v does not go on", other)
		}()
	}
	defer func() {
		if _, ok := recover().(interface{ RuntimeError() }); !ok {
			t.Errorf("a fault of the program does not go on")
		}
	}()
	whyOf(func() { _ = []int{}[len(t.Name())] })
}

func TestReader(t *testing.T) {
	r := parts.NewReader([]byte{1, 2, 3, 4, 5, 6, 7, 8, 9, 10, 11, 12, 13})
	if b := r.Bytes(2); !bytes.Equal(b, []byte{1, 2}) {
		t.Errorf("the first two bytes are %v", b)
	}
	if b := r.Bytes(0); len(b) != 0 {
		t.Errorf("no bytes are %v", b)
	}
	if n := parts.Number[uint8](r); n != 3 {
		t.Errorf("the number of one byte is %d", n)
	}
	if n := parts.Number[uint16](r); n != 0x0504 {
		t.Errorf("the number of two bytes is %#x", n)
	}
	if n := parts.Number[uint32](r); n != 0x09080706 {
		t.Errorf("the number of four bytes is %#x", n)
	}
	if n := parts.Numbers[uint16](r, 2); !slices.Equal(n, []uint16{0x0b0a, 0x0d0c}) {
		t.Errorf("the numbers are %#x", n)
	}
	if why := whyOf(r.End); why != api.OK {
		t.Errorf("at the end: %d", why)
	}
}

func TestReaderGivesUp(t *testing.T) {
	made := func() *parts.Reader { return parts.NewReader([]byte{1, 2, 3}) }
	for what, call := range map[string]func(){
		"too many bytes":   func() { made().Bytes(4) },
		"too wide":         func() { parts.Number[uint32](made()) },
		"too many numbers": func() { parts.Numbers[uint16](made(), 2) },
		"bytes left over":  func() { made().End() },
	} {
		if why := whyOf(call); why != api.ErrFormat {
			t.Errorf("%s: %d", what, why)
		}
	}
	if why := whyOf(func() { made().Bytes(3); parts.Numbers[uint32](made(), 0) }); why != api.OK {
		t.Errorf("just as many: %d", why)
	}
	if why := whyOf(func() { parts.Number[uint8](parts.NewReader(nil)) }); why != api.ErrFormat {
		t.Errorf("of no bytes: %d", why)
	}
}
