package bitrow_test

import (
	"bytes"
	"slices"
	"testing"

	"rotor/api"
	"rotor/bitrow"
	"rotor/number"
)

func laid[N number.Unsigned](bits []bool) []byte {
	var b bitrow.Bits[N]
	for _, bit := range bits {
		b.Add(bit)
	}
	return b.AppendTo([]byte{7})
}

func TestNoBits(t *testing.T) {
	if out := laid[uint16](nil); !bytes.Equal(out, []byte{7}) {
		t.Errorf("no bits are laid as %v", out[1:])
	}
}

func TestOrderInBytes(t *testing.T) {
	bits := []bool{true, false, false, false, false, false, true, false, false, true}
	if out := laid[uint16](bits); !bytes.Equal(out, []byte{7, 65, 2, 0, 0}) {
		t.Errorf("the bits are laid as %v", out[1:])
	}
}

func TestDirectoryBeginsBlocks(t *testing.T) {
	ones := slices.Repeat([]bool{true}, 2*api.Block+1)
	for count, want := range map[int][]byte{
		15: {7, 255, 127, 0, 0},
		16: {7, 255, 255, 0, 0},
		17: {7, 255, 255, 1, 0, 0, 16, 0},
		32: {7, 255, 255, 255, 255, 0, 0, 16, 0},
		33: {7, 255, 255, 255, 255, 1, 0, 0, 16, 0, 32, 0},
	} {
		if out := laid[uint16](ones[:count]); !bytes.Equal(out, want) {
			t.Errorf("%d bits are laid as %v, want %v", count, out[1:], want[1:])
		}
	}
}

func TestWidthOfDirectory(t *testing.T) {
	bits := slices.Repeat([]bool{true}, 17)
	if out := laid[uint8](bits); !bytes.Equal(out, []byte{7, 255, 255, 1, 0, 16}) {
		t.Errorf("by one byte: %v", out[1:])
	}
	if out := laid[uint32](bits); !bytes.Equal(out, []byte{7, 255, 255, 1, 0, 0, 0, 0, 16, 0, 0, 0}) {
		t.Errorf("by four bytes: %v", out[1:])
	}
}
