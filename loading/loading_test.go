package loading_test

import (
	"strings"
	"testing"

	"rotor/api"
	"rotor/layout"
	"rotor/loading"
	"rotor/parts"
	"rotor/rows"
)

// whyOf tells for what reason something gives up; OK: it does not.
func whyOf(call func()) (why api.Errno) {
	defer func() {
		if recovered := recover(); recovered != nil {
			why = parts.Why(recovered)
		}
	}()
	call()
	return api.OK
}

func TestBytes(t *testing.T) {
	var long strings.Builder
	for i := range 4000 {
		long.WriteByte(byte(i % 251))
	}
	for _, size := range []int{0, 1, 63, 64, 65, 128, 4000} {
		for _, sizes := range [][]int{nil, {1}, {0, 0, 63, 64, 2, 0, 0, 0, 0, 0, 0, 0, 5}} {
			s := &api.Source{Bytes: long.String()[:size], Sizes: sizes}
			if data := loading.Bytes(s); string(data) != s.Bytes {
				t.Errorf("%d bytes are read as %d others by %v", size, len(data), sizes)
			}
		}
	}
}

func TestBytesGivesUp(t *testing.T) {
	for _, sizes := range [][]int{{-1}, {64, -1}, make([]int, 8), {3, 0, 0, 0, 0, 0, 0, 0, 0}} {
		s := &api.Source{Bytes: strings.Repeat("x", 100), Sizes: sizes}
		if why := whyOf(func() { loading.Bytes(s) }); why != api.ErrIO || s.Calls != len(sizes) {
			t.Errorf("by %v: %d after %d reads", sizes, why, s.Calls)
		}
	}
}

func TestRowsOfFile(t *testing.T) {
	var x *rows.Rows
	why := whyOf(func() { x = loading.Rows([]byte(layout.File("aba", 2))) })
	if why != api.OK {
		t.Fatalf("the file of aba is given up: %d", why)
	}
	if x.Length != 3 || x.Rate != 2 || x.Last != 2 || x.First['b'] != 3 || x.Places[0] != 2 || x.Places[1] != 0 || !x.Marks.Bit(1) || x.Marks.Bit(3) {
		t.Errorf("the rows of aba are %+v", x)
	}
	if piece := x.Piece(0, 3); piece != "aba" {
		t.Errorf("the text is %q", piece)
	}
}

func TestRowsGiveUp(t *testing.T) {
	file := layout.File("aba", 2)
	for _, data := range []string{"", "RTX1", file[:12], file[:42], file[:len(file)-1], file + "\x00", "rtx1" + file[4:]} {
		if why := whyOf(func() { loading.Rows([]byte(data)) }); why != api.ErrFormat {
			t.Errorf("%d bytes: %d", len(data), why)
		}
	}
}
