package rows

import (
	"math/rand"
	"slices"
	"strings"
	"testing"
)

// treeOf makes the levels of a column by going through it once for each.
func treeOf(column string) Tree {
	var t Tree
	order := []byte(column)
	for k := range t {
		var zeros, ones []byte
		for _, c := range order {
			bit := c<<k&0x80 != 0
			t[k].Bits.Add(bit)
			if bit {
				ones = append(ones, c)
			} else {
				zeros = append(zeros, c)
			}
		}
		t[k].Zeros = len(zeros)
		order = append(zeros, ones...)
	}
	return t
}

func TestTree(t *testing.T) {
	r := rand.New(rand.NewSource(9))
	for length := range 100 {
		b := make([]byte, length)
		for i := range b {
			b[i] = byte(r.Intn(1 + r.Intn(256)))
		}
		column := string(b)
		tree := treeOf(column)
		for i := range column {
			want := strings.Count(column[:i], column[i:i+1])
			if c, equal := tree.At(i); c != column[i] || equal != want {
				t.Fatalf("at %d of %q is %q with %d ahead, want %d", i, column, c, equal, want)
			}
		}
		for c := range 256 {
			for i := 0; i <= length; i += 1 + length/7 {
				want := strings.Count(column[:i], string([]byte{byte(c)}))
				if ahead := tree.Ahead(byte(c), i); ahead != want {
					t.Fatalf("ahead of %d of %q are %d of %d, want %d", i, column, ahead, c, want)
				}
			}
		}
	}
}

// exampleRows are those of aba, as the document tells them.
func exampleRows() *Rows {
	x := &Rows{Length: 3, Rate: 2, Last: 2, Tree: treeOf("aba"), Places: []uint16{2, 0}}
	for c := range x.First {
		switch {
		case c <= 'a':
			x.First[c] = 1
		case c == 'b':
			x.First[c] = 3
		default:
			x.First[c] = 4
		}
	}
	for _, mark := range []bool{false, true, true, false} {
		x.Marks.Add(mark)
	}
	return x
}

func TestBackOfExample(t *testing.T) {
	x := exampleRows()
	for row, want := range map[int]struct {
		c    byte
		back int
	}{0: {'a', 1}, 1: {'b', 3}, 3: {'a', 2}} {
		if c, back := x.Back(row); c != want.c || back != want.back {
			t.Errorf("back from row %d is row %d by %q", row, back, c)
		}
	}
}

func TestPieceOfExample(t *testing.T) {
	x := exampleRows()
	for from := range 4 {
		for to := from; to <= 3; to++ {
			if piece := x.Piece(from, to); piece != "aba"[from:to] {
				t.Errorf("from %d to %d is %q", from, to, piece)
			}
		}
	}
}

func TestSearchOfExample(t *testing.T) {
	x := exampleRows()
	for p, want := range map[string][]int{
		"": {0, 1, 2, 3}, "a": {0, 2}, "b": {1}, "ab": {0}, "ba": {1}, "aba": {0},
		"c": {}, "aa": {}, "bab": {}, "abab": {}, "aaba": {}, "\x00": {}, "\xff": {},
	} {
		if n := x.Count(p); n != len(want) {
			t.Errorf("%q stands at %d places, want %d", p, n, len(want))
		}
		for most := range 6 {
			if places := x.Locate(p, most); !slices.Equal(places, want[:min(most, len(want))]) {
				t.Errorf("the first %d places of %q are %v, want those of %v", most, p, places, want)
			}
		}
	}
}

// TestWhereRowsAre goes through marked rows and rows that are known by the way back alone.
func TestWhereRowsAre(t *testing.T) {
	x := exampleRows()
	for row, want := range []int{3, 2, 0, 1} {
		if at := x.at(row); at != want {
			t.Errorf("row %d is at %d, want %d", row, at, want)
		}
	}
}
