package number_test

import (
	"bytes"
	"math/rand"
	"testing"

	"rotor/number"
)

func TestWidth(t *testing.T) {
	if w := [3]int{number.Width[uint8](), number.Width[uint16](), number.Width[uint32]()}; w != [3]int{1, 2, 4} {
		t.Errorf("the widths are %v", w)
	}
}

func TestAppendPutsLowBytesFirst(t *testing.T) {
	out := []byte{9}
	out = number.Append(out, uint8(0xfe))
	out = number.Append(out, uint16(0x1234))
	out = number.Append(out, uint32(0x89abcdef))
	out = number.AppendAll(out, []uint16{0, 1, 0xff00})
	out = number.AppendAll(out, []uint32(nil))
	want := []byte{9, 0xfe, 0x34, 0x12, 0xef, 0xcd, 0xab, 0x89, 0, 0, 1, 0, 0, 0xff}
	if !bytes.Equal(out, want) {
		t.Errorf("the bytes are %v, want %v", out, want)
	}
}

func TestAppendOfBounds(t *testing.T) {
	out := number.Append(nil, uint8(255))
	out = number.Append(out, uint16(0))
	out = number.Append(out, uint16(65535))
	out = number.Append(out, uint32(0))
	out = number.Append(out, uint32(1<<32-1))
	want := []byte{255, 0, 0, 255, 255, 0, 0, 0, 0, 255, 255, 255, 255}
	if !bytes.Equal(out, want) {
		t.Errorf("the bytes are %v, want %v", out, want)
	}
}

func TestReadTakesLowBytesFirst(t *testing.T) {
	data := []byte{0xfe, 0x34, 0x12, 0xef, 0xcd}
	if n := number.Read[uint8](data); n != 0xfe {
		t.Errorf("of one byte: %#x", n)
	}
	if n := number.Read[uint16](data); n != 0x34fe {
		t.Errorf("of two bytes: %#x", n)
	}
	if n := number.Read[uint32](data); n != 0xef1234fe {
		t.Errorf("of four bytes: %#x", n)
	}
}

func TestReadOfBounds(t *testing.T) {
	all := []byte{255, 255, 255, 255}
	if a, b, c := number.Read[uint8](all), number.Read[uint16](all), number.Read[uint32](all); a != 255 || b != 65535 || c != 1<<32-1 {
		t.Errorf("the greatest numbers are %d, %d, %d", a, b, c)
	}
	none := []byte{0, 0, 0, 0}
	if a, b, c := number.Read[uint8](none), number.Read[uint16](none), number.Read[uint32](none); a != 0 || b != 0 || c != 0 {
		t.Errorf("the least numbers are %d, %d, %d", a, b, c)
	}
}

func TestReadOfWhatIsLaid(t *testing.T) {
	r := rand.New(rand.NewSource(4))
	for range 1000 {
		n := r.Uint32()
		if got := number.Read[uint32](number.Append(nil, n)); got != n {
			t.Fatalf("%d is read as %d", n, got)
		}
		if got := number.Read[uint16](number.Append(nil, uint16(n))); got != uint16(n) {
			t.Fatalf("%d is read as %d", uint16(n), got)
		}
	}
}

func TestCheckSumOfExamples(t *testing.T) {
	for data, want := range map[string]uint32{
		"":         0,
		"\x00":     1,
		"\x00\x00": 65600,
		"\xff":     256,
		"\x02\x00": 3*65599 + 1,
	} {
		if sum := number.CheckSum([]byte(data)); sum != want {
			t.Errorf("the check sum of %q is %d, want %d", data, sum, want)
		}
	}
}

// TestCheckSumWraps holds the wrap-round against a sum that is kept below 2^32 by division.
func TestCheckSumWraps(t *testing.T) {
	r := rand.New(rand.NewSource(3))
	for range 100 {
		data := make([]byte, r.Intn(600))
		r.Read(data)
		want := uint64(0)
		for _, b := range data {
			want = (want*65599 + uint64(b) + 1) % 4294967296
		}
		if sum := number.CheckSum(data); uint64(sum) != want {
			t.Fatalf("the check sum of %v is %d, want %d", data, sum, want)
		}
	}
}
