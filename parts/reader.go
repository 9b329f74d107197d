package parts

import "rotor/number"

// Reader goes through bytes from their beginning on. It gives up where they end too early.
type Reader struct {
	rest []byte
}

// NewReader makes a reader of the bytes.
func NewReader(data []byte) *Reader {
	return &Reader{rest: data}
}

// Bytes takes the next so many bytes. They are a piece of those that the reader was made of.
func (r *Reader) Bytes(count int) []byte {
	Must(count <= len(r.rest))
	taken := r.rest[:count]
	r.rest = r.rest[count:]
	return taken
}

// End gives up, unless all bytes were taken.
func (r *Reader) End() {
	Must(len(r.rest) == 0)
}

// Number takes the next number, of the width of its type.
func Number[N number.Unsigned](r *Reader) N {
	return number.Read[N](r.Bytes(number.Width[N]()))
}

// Numbers takes the next so many numbers.
func Numbers[N number.Unsigned](r *Reader, count int) []N {
	values := make([]N, count)
	for i := range values {
		values[i] = Number[N](r)
	}
	return values
}
