package rotor_test

import (
	"encoding/binary"
	"math/bits"
	"sort"
)

// The reference makes a file by other means than the program: rows by counting, levels by a sort, directories by counting anew.

func put2(out []byte, value int) []byte {
	return binary.LittleEndian.AppendUint16(out, uint16(value))
}

// referenceRows puts each end where the count of the ends below it says.
func referenceRows(text string) []int {
	rows := make([]int, len(text)+1)
	for p := range rows {
		below := 0
		for q := range rows {
			if text[q:] < text[p:] {
				below++
			}
		}
		rows[below] = p
	}
	return rows
}

func referenceBits(set []bool) []byte {
	packed := make([]byte, (len(set)+7)/8)
	for k, bit := range set {
		if bit {
			packed[k/8] += 1 << (k % 8)
		}
	}
	for k := 0; k < len(set); k += 16 {
		ones := 0
		for _, bit := range set[:k] {
			if bit {
				ones++
			}
		}
		packed = put2(packed, ones)
	}
	return packed
}

// referenceTree sorts, for each level, the column by the bits of the levels ahead of it, the newest one weighing most.
func referenceTree(column []byte) []byte {
	var out []byte
	for level := range 8 {
		order := append([]byte(nil), column...)
		key := func(c byte) byte { return bits.Reverse8(c) & (1<<level - 1) }
		sort.SliceStable(order, func(i, j int) bool { return key(order[i]) < key(order[j]) })
		zeros := 0
		set := make([]bool, len(order))
		for i, c := range order {
			set[i] = bits.Reverse8(c)>>level&1 == 1
			if !set[i] {
				zeros++
			}
		}
		out = append(put2(out, zeros), referenceBits(set)...)
	}
	return out
}

func referenceFirst(text string, rows []int) []byte {
	var out []byte
	for c := range 256 {
		count := 0
		for _, p := range rows {
			if p == len(text) || int(text[p]) < c {
				count++
			}
		}
		out = put2(out, count)
	}
	return out
}

func referenceSections(text string, rate int) [][]byte {
	rows := referenceRows(text)
	var last, column, places []byte
	marks := make([]bool, len(rows))
	for i, p := range rows {
		if p == 0 {
			last = put2(last, i)
		} else {
			column = append(column, text[p-1])
		}
		if p/rate*rate == p {
			marks[i] = true
			places = put2(places, p)
		}
	}
	return [][]byte{last, referenceTree(column), referenceFirst(text, rows), referenceBits(marks), places}
}

func referenceFile(text string, rate int) string {
	return assembled(len(text), rate, referenceSections(text, rate))
}

// assembled lays sections in a file whose sizes and check sums are theirs, whatever stands in them.
func assembled(length int, rate int, sections [][]byte) string {
	var body []byte
	table := make([]byte, 30)
	for i, section := range sections {
		binary.LittleEndian.PutUint16(table[6*i:], uint16(len(section)))
		binary.LittleEndian.PutUint32(table[6*i+2:], referenceSum(section))
		body = append(body, section...)
	}
	out := put2([]byte("RTX1"), length)
	out = append(out, byte(rate), 5)
	out = binary.LittleEndian.AppendUint32(out, uint32(42+len(body)))
	return string(out) + string(table) + string(body)
}

func referenceSum(section []byte) uint32 {
	sum := uint64(0)
	for _, b := range section {
		sum = (sum*65599 + uint64(b) + 1) % (1 << 32)
	}
	return uint32(sum)
}

// referenceText tells of which text by which rate the bytes are the file, if they are one: what may be the text is read out of LAST and TREE, and its file is held against all bytes.
func referenceText(file string) (text string, rate int, ok bool) {
	if len(file) < 577 {
		return "", 0, false
	}
	length, rate := int(file[4])+256*int(file[5]), int(file[6])
	levelBytes := 2 + (length+7)/8 + (length+15)/16*2
	if length > 250 || rate != 1 && rate != 2 && rate != 4 && rate != 8 || len(file) < 44+8*levelBytes {
		return "", 0, false
	}
	column := make([]byte, length)
	for level := 7; level >= 0; level-- {
		column = beforeLevel(column, file[44+level*levelBytes+2:], level)
	}
	last := int(file[42]) + 256*int(file[43])
	text, ok = textOfColumn(column, last)
	return text, rate, ok && referenceFile(text, rate) == file
}

// beforeLevel puts the column, as it is behind a level, in the order ahead of it, with the level's bits in it.
func beforeLevel(behind []byte, packed string, level int) []byte {
	var places []int
	for _, want := range []byte{0, 1} {
		for i := range behind {
			if packed[i/8]>>(i%8)&1 == want {
				places = append(places, i)
			}
		}
	}
	ahead := make([]byte, len(behind))
	for k, i := range places {
		ahead[i] = behind[k] + packed[i/8]>>(i%8)&1<<(7-level)
	}
	return ahead
}

// textOfColumn sorts the bytes of the rows, and follows them from the last row on, forwards.
func textOfColumn(column []byte, last int) (string, bool) {
	if last > len(column) {
		return "", false
	}
	bytesOfRows := make([]int, len(column)+1)
	order := make([]int, len(column)+1)
	for row := range order {
		order[row] = row
		switch {
		case row < last:
			bytesOfRows[row] = int(column[row])
		case row == last:
			bytesOfRows[row] = -1
		default:
			bytesOfRows[row] = int(column[row-1])
		}
	}
	sort.SliceStable(order, func(i, j int) bool { return bytesOfRows[order[i]] < bytesOfRows[order[j]] })
	text := make([]byte, 0, len(column))
	for row := last; len(text) < len(column); {
		row = order[row]
		if row == last {
			return "", false
		}
		text = append(text, byte(bytesOfRows[row]))
	}
	return string(text), true
}
