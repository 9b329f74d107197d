package bitrow_test

import (
	"bytes"
	"math/rand"
	"slices"
	"testing"

	"rotor/api"
	"rotor/bitrow"
	"rotor/number"
	"rotor/parts"
)

func laid[N number.Unsigned](bits []bool) []byte {
	var b bitrow.Bits[N]
	for _, bit := range bits {
		b.Add(bit)
	}
	return b.AppendTo([]byte{7})
}

func TestNoBits(t *testing.T) {
	if out := laid[uint16](nil); !bytes.Equal(out, []byte{7}) {
		t.Errorf("no bits are laid as %v", out[1:])
	}
}

func TestOrderInBytes(t *testing.T) {
	bits := []bool{true, false, false, false, false, false, true, false, false, true}
	if out := laid[uint16](bits); !bytes.Equal(out, []byte{7, 65, 2, 0, 0}) {
		t.Errorf("the bits are laid as %v", out[1:])
	}
}

func TestDirectoryBeginsBlocks(t *testing.T) {
	ones := slices.Repeat([]bool{true}, 2*api.Block+1)
	for count, want := range map[int][]byte{
		15: {7, 255, 127, 0, 0},
		16: {7, 255, 255, 0, 0},
		17: {7, 255, 255, 1, 0, 0, 16, 0},
		32: {7, 255, 255, 255, 255, 0, 0, 16, 0},
		33: {7, 255, 255, 255, 255, 1, 0, 0, 16, 0, 32, 0},
	} {
		if out := laid[uint16](ones[:count]); !bytes.Equal(out, want) {
			t.Errorf("%d bits are laid as %v, want %v", count, out[1:], want[1:])
		}
	}
}

func TestWidthOfDirectory(t *testing.T) {
	bits := slices.Repeat([]bool{true}, 17)
	if out := laid[uint8](bits); !bytes.Equal(out, []byte{7, 255, 255, 1, 0, 16}) {
		t.Errorf("by one byte: %v", out[1:])
	}
	if out := laid[uint32](bits); !bytes.Equal(out, []byte{7, 255, 255, 1, 0, 0, 0, 0, 16, 0, 0, 0}) {
		t.Errorf("by four bytes: %v", out[1:])
	}
}

func taken[N number.Unsigned](data []byte, count int) *bitrow.Bits[N] {
	b := bitrow.Take[N](parts.NewReader(data), count)
	return &b
}

// mustCount holds the bits, and how many are 1 ahead of each place, against a list of them.
func mustCount[N number.Unsigned](t *testing.T, b *bitrow.Bits[N], bits []bool) {
	t.Helper()
	ones := 0
	for k, bit := range bits {
		if b.Bit(k) != bit || b.Ones(k) != ones {
			t.Fatalf("bit %d of %v is %v, with %d ahead", k, bits, b.Bit(k), b.Ones(k))
		}
		if bit {
			ones++
		}
	}
	if b.Ones(len(bits)) != ones || b.Zeros() != len(bits)-ones {
		t.Fatalf("of %v, %d are 1 and %d are 0", bits, b.Ones(len(bits)), b.Zeros())
	}
}

func TestTakenAsAdded(t *testing.T) {
	r := rand.New(rand.NewSource(8))
	for count := range 200 {
		var added bitrow.Bits[uint16]
		bits := make([]bool, count)
		for k := range bits {
			bits[k] = r.Intn(3) > 0
			added.Add(bits[k])
		}
		mustCount(t, &added, bits)
		b := taken[uint16](added.AppendTo(nil), count)
		mustCount(t, b, bits)
		if !b.Agree() || !added.Agree() {
			t.Errorf("the bits %v do not agree with their own directory", bits)
		}
		mustCount(t, taken[uint8](laid[uint8](bits)[1:], count), bits)
		mustCount(t, taken[uint32](laid[uint32](bits)[1:], count), bits)
	}
}

func TestAgree(t *testing.T) {
	right := []byte{255, 255, 1, 0, 0, 16, 0}
	if !taken[uint16](right, 17).Agree() {
		t.Errorf("bits and their directory do not agree")
	}
	for at := range right {
		for bit := range 8 {
			wrong := slices.Clone(right)
			wrong[at] ^= 1 << bit
			// The last bit, 16, is the only one that no number of the directory counts.
			if agree := taken[uint16](wrong, 17).Agree(); agree != (at == 2 && bit == 0) {
				t.Errorf("with bit %d of byte %d changed, they agree: %v", bit, at, agree)
			}
		}
	}
	if taken[uint8]([]byte{2, 0}, 1).Agree() || !taken[uint8]([]byte{1, 0}, 1).Agree() || !taken[uint8](nil, 0).Agree() {
		t.Errorf("few bits are judged otherwise")
	}
}

func TestTakeLeavesTheRest(t *testing.T) {
	r := parts.NewReader([]byte{3, 0, 0, 9, 9})
	b := bitrow.Take[uint16](r, 2)
	mustCount(t, &b, []bool{true, true})
	if rest := r.Bytes(2); !bytes.Equal(rest, []byte{9, 9}) {
		t.Errorf("what is left is %v", rest)
	}
}

func TestTakeKeepsNoBytes(t *testing.T) {
	data := []byte{3, 0, 0}
	b := taken[uint16](data, 2)
	data[0], data[1] = 0, 1
	mustCount(t, b, []bool{true, true})
}

func TestTakeGivesUp(t *testing.T) {
	for _, c := range []struct{ size, count int }{{0, 1}, {1, 1}, {2, 1}, {6, 17}, {2, 9}, {3, 9}} {
		func() {
			defer func() {
				if why := parts.Why(recover()); why != api.ErrFormat {
					t.Errorf("%d bits out of %d bytes: error %d", c.count, c.size, why)
				}
			}()
			taken[uint16](make([]byte, c.size), c.count)
			t.Errorf("%d bits are taken out of %d bytes", c.count, c.size)
		}()
	}
}
