package rotor_test

import (
	"encoding/binary"
	"math/bits"
	"sort"
)

// The reference makes a file by other means than the program: rows by counting, levels by a sort, directories by counting anew.

func put2(out []byte, value int) []byte {
	return binary.LittleEndian.AppendUint16(out, uint16(value))
}

// referenceRows puts each end where the count of the ends below it says.
func referenceRows(text string) []int {
	rows := make([]int, len(text)+1)
	for p := range rows {
		below := 0
		for q := range rows {
			if text[q:] < text[p:] {
				below++
			}
		}
		rows[below] = p
	}
	return rows
}

func referenceBits(set []bool) []byte {
	packed := make([]byte, (len(set)+7)/8)
	for k, bit := range set {
		if bit {
			packed[k/8] += 1 << (k % 8)
		}
	}
	for k := 0; k < len(set); k += 16 {
		ones := 0
		for _, bit := range set[:k] {
			if bit {
				ones++
			}
		}
		packed = put2(packed, ones)
	}
	return packed
}

// referenceTree sorts, for each level, the column by the bits of the levels ahead of it, the newest one weighing most.
func referenceTree(column []byte) []byte {
	var out []byte
	for level := range 8 {
		order := append([]byte(nil), column...)
		key := func(c byte) byte { return bits.Reverse8(c) & (1<<level - 1) }
		sort.SliceStable(order, func(i, j int) bool { return key(order[i]) < key(order[j]) })
		zeros := 0
		set := make([]bool, len(order))
		for i, c := range order {
			set[i] = bits.Reverse8(c)>>level&1 == 1
			if !set[i] {
				zeros++
			}
		}
		out = append(put2(out, zeros), referenceBits(set)...)
	}
	return out
}

func referenceFirst(text string, rows []int) []byte {
	var out []byte
	for c := range 256 {
		count := 0
		for _, p := range rows {
			if p == len(text) || int(text[p]) < c {
				count++
			}
		}
		out = put2(out, count)
	}
	return out
}

func referenceSections(text string, rate int) [][]byte {
	rows := referenceRows(text)
	var last, column, places []byte
	marks := make([]bool, len(rows))
	for i, p := range rows {
		if p == 0 {
			last = put2(last, i)
		} else {
			column = append(column, text[p-1])
		}
		if p/rate*rate == p {
			marks[i] = true
			places = put2(places, p)
		}
	}
	return [][]byte{last, referenceTree(column), referenceFirst(text, rows), referenceBits(marks), places}
}

func referenceFile(text string, rate int) string {
	var body []byte
	table := make([]byte, 30)
	for i, section := range referenceSections(text, rate) {
		sum := uint64(0)
		for _, b := range section {
			sum = (sum*65599 + uint64(b) + 1) % (1 << 32)
		}
		binary.LittleEndian.PutUint16(table[6*i:], uint16(len(section)))
		binary.LittleEndian.PutUint32(table[6*i+2:], uint32(sum))
		body = append(body, section...)
	}
	out := put2([]byte("RTX1"), len(text))
	out = append(out, byte(rate), 5)
	out = binary.LittleEndian.AppendUint32(out, uint32(42+len(body)))
	return string(out) + string(table) + string(body)
}
