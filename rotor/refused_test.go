package rotor_test

import (
	"encoding/binary"
	"math/rand"
	"slices"
	"strings"
	"testing"

	"rotor/api"
	"rotor/rotor"
)

// mustNotLoad: the bytes are refused as no file.
func mustNotLoad(t *testing.T, what string, file string) {
	t.Helper()
	if x, e := rotor.Load(&api.Source{Bytes: file}); x != nil || e != api.ErrFormat {
		t.Errorf("P5: %s: error %d, want %d", what, e, api.ErrFormat)
	}
}

// judge: the bytes are taken, if the reference says of which text they are the file, else they are refused. It tells which.
func judge(t *testing.T, what string, file string) bool {
	t.Helper()
	text, rate, ok := referenceText(file)
	if ok {
		mustTell(t, mustLoad(t, file), text, rate)
	} else {
		mustNotLoad(t, what, file)
	}
	return ok
}

// summed puts the check sums right, as far as the sections lie in the bytes.
func summed(file []byte) string {
	b := slices.Clone(file)
	at := 42
	for i := range 5 {
		if len(b) < 42 {
			break
		}
		end := at + int(binary.LittleEndian.Uint16(b[12+6*i:]))
		if end > len(b) {
			break
		}
		binary.LittleEndian.PutUint32(b[14+6*i:], referenceSum(b[at:end]))
		at = end
	}
	return string(b)
}

// sized puts the number of bytes of the whole file right.
func sized(file string) string {
	b := []byte(file)
	if len(b) >= 12 {
		binary.LittleEndian.PutUint32(b[8:], uint32(len(b)))
	}
	return string(b)
}

// changedTexts are the texts whose files are spoilt.
func changedTexts() []string {
	return []string{"", "a", "aba", "mississippi", "\x00\xff\x00\xff", counted(60, 15), counted(0, 16), strings.Repeat("ab", 17)}
}

func TestReferenceKnowsFiles(t *testing.T) {
	for _, text := range append(changedTexts(), counted(0, 250), strings.Repeat("a", 250), strings.Repeat("ab", 125)) {
		for _, rate := range rates {
			if got, r, ok := referenceText(referenceFile(text, rate)); got != text || r != rate || !ok {
				t.Errorf("the reference tells %q by %d of the file of %q by %d", got, r, text, rate)
			}
		}
	}
}

// TestRefusedByteChanged changes a byte at each place: with the check sums as they were, and put right.
func TestRefusedByteChanged(t *testing.T) {
	for _, text := range changedTexts() {
		for _, rate := range []int{1, 4} {
			file := referenceFile(text, rate)
			for at := range file {
				for _, change := range []byte{1, 2, 0x80, 0xff} {
					b := []byte(file)
					b[at] ^= change
					judge(t, "a byte changed", string(b))
					judge(t, "a byte changed, with its sum", summed(b))
				}
			}
		}
	}
}

// TestRefusedEveryValue puts every value at every place, but for FIRST, where all numbers are looked at alike: there, some.
func TestRefusedEveryValue(t *testing.T) {
	for _, text := range []string{"", "aba"} {
		file := referenceFile(text, 2)
		first := 44 + 8*(2+(len(text)+7)/8+(len(text)+15)/16*2)
		taken := 0
		for at := range file {
			for value := range 256 {
				if at >= first && at < first+512 && value > 5 {
					continue
				}
				b := []byte(file)
				b[at] = byte(value)
				if changed := summed(b); changed != file {
					taken += btoi(judge(t, "a byte changed, with its sum", changed))
				}
			}
		}
		// Of the empty text alone all rates mark the same rows.
		if want := btoi(text == "") * 3; taken != want {
			t.Errorf("P5: %d files with a byte changed are files of %q, want %d", taken, text, want)
		}
	}
}

// TestRefusedManyChanges changes some bytes, most often where the numbers are few, and puts the check sums right.
func TestRefusedManyChanges(t *testing.T) {
	r := rand.New(rand.NewSource(31))
	taken := 0
	for range 20000 {
		text := drawn(r, "ab", r.Intn(20))
		file := []byte(referenceFile(text, rates[r.Intn(4)]))
		tree := 8 * (2 + (len(text)+7)/8 + (len(text)+15)/16*2)
		for range r.Intn(4) {
			at := 42 + r.Intn(2+tree)
			if r.Intn(3) == 0 {
				at = 44 + tree + 512 + r.Intn(len(file)-44-tree-512)
			}
			if r.Intn(9) == 0 {
				at = r.Intn(len(file))
			}
			file[at] = byte(r.Intn(9))
			if r.Intn(2) == 0 {
				file[at] ^= 1 << r.Intn(8)
			}
		}
		taken += btoi(judge(t, "some bytes changed", summed(file)))
	}
	if taken < 1000 || taken > 19000 {
		t.Errorf("%d of 20000 are files", taken)
	}
}

func TestRefusedCutOff(t *testing.T) {
	for _, text := range []string{"", "aba", counted(0, 17)} {
		file := referenceFile(text, 2)
		for size := range len(file) {
			mustNotLoad(t, "a file cut off", file[:size])
			mustNotLoad(t, "a file cut off, with its size", sized(file[:size]))
			mustNotLoad(t, "a file without its beginning", file[len(file)-size:])
		}
	}
}

func TestRefusedGoneOn(t *testing.T) {
	for _, text := range []string{"", "aba", counted(0, 17)} {
		file := referenceFile(text, 2)
		for _, more := range []string{"\x00", "\x00\x00", "\x01", "\xff\xff\xff", "RTX1", strings.Repeat("\x00", 64), strings.Repeat("\x00", 1000), file} {
			mustNotLoad(t, "a file that goes on", file+more)
			mustNotLoad(t, "a file that goes on, with its size", sized(file+more))
			mustNotLoad(t, "a file with something ahead", more+file)
		}
	}
}

// TestRefusedSections makes each section longer and shorter, with all sizes and check sums put right.
func TestRefusedSections(t *testing.T) {
	for _, text := range []string{"", "aba", counted(0, 15), counted(0, 16), counted(0, 17)} {
		for _, rate := range rates {
			for kind := range 5 {
				sections := referenceSections(text, rate)
				whole := sections[kind]
				for _, other := range [][]byte{
					nil, whole[:1], whole[:len(whole)-1], whole[:len(whole)-2], whole[1:],
					append(slices.Clone(whole), 0), append(slices.Clone(whole), 0, 0), append([]byte{0}, whole...), append([]byte{0, 0}, whole...),
					append(slices.Clone(whole), 1, 0), slices.Concat(whole, whole), make([]byte, 900),
				} {
					sections[kind] = other
					mustNotLoad(t, "a section longer or shorter", assembled(len(text), rate, sections))
				}
			}
		}
	}
}

// TestRefusedBounds moves the bound between two sections, while the bytes stay as they are.
func TestRefusedBounds(t *testing.T) {
	for _, text := range []string{"", "aba", "mississippi"} {
		for kind := range 4 {
			for _, moved := range []int{-2, -1, 1, 2} {
				b := []byte(referenceFile(text, 1))
				size := binary.LittleEndian.Uint16(b[12+6*kind:])
				next := binary.LittleEndian.Uint16(b[18+6*kind:])
				binary.LittleEndian.PutUint16(b[12+6*kind:], size+uint16(moved))
				binary.LittleEndian.PutUint16(b[18+6*kind:], next-uint16(moved))
				mustNotLoad(t, "a bound moved", summed(b))
			}
		}
	}
}

func TestRefusedOrderOfSections(t *testing.T) {
	for one := range 5 {
		for other := range one {
			sections := referenceSections("mississippi", 1)
			sections[one], sections[other] = sections[other], sections[one]
			mustNotLoad(t, "two sections in each other's place", assembled(11, 1, sections))
		}
	}
	sections := referenceSections("aba", 1)
	mustNotLoad(t, "four sections", assembled(3, 1, sections[:4]))
}

func TestRefusedHead(t *testing.T) {
	sections := referenceSections("aba", 2)
	for length := range 65536 {
		if length != 3 && (length < 600 || length%251 == 3 || length%256 == 3) {
			mustNotLoad(t, "another length", assembled(length, 2, sections))
		}
	}
	for rate := range 256 {
		if rate != 2 {
			mustNotLoad(t, "another rate", assembled(3, rate, sections))
		}
	}
	// A text of more than MaxText bytes has no file, though one could be laid.
	for _, length := range []int{251, 252, 256, 300} {
		for _, rate := range rates {
			mustNotLoad(t, "a long text", referenceFile(counted(0, length), rate))
		}
	}
	for _, rate := range []int{3, 5, 6, 7, 9, 16, 128, 255} {
		mustNotLoad(t, "no rate", referenceFile("mississippi", rate))
		mustNotLoad(t, "no rate", referenceFile("", rate))
	}
}

func TestRefusedLastRow(t *testing.T) {
	for _, text := range []string{"", "a", "aba", "mississippi", counted(0, 16)} {
		sections := referenceSections(text, 1)
		right := binary.LittleEndian.Uint16(sections[0])
		for last := range 65536 {
			if uint16(last) != right && (last < 300 || last%256 == int(right) || last > 65500) {
				sections[0] = put2(nil, last)
				judge(t, "another last row", assembled(len(text), 1, sections))
			}
		}
	}
}

// TestRefusedNumbersOfTree puts other numbers in the place of each one of TREE: zeros and directories.
func TestRefusedNumbersOfTree(t *testing.T) {
	text := counted(90, 33)
	var wrong []int
	for value := range 36 {
		wrong = append(wrong, value, 256*value, 256*value+16, 65535-value)
	}
	for level := range 8 {
		// A level has its zeros (2), 33 bits in 5 bytes, and a directory of three numbers.
		for _, at := range []int{0, 7, 9, 11} {
			sections := referenceSections(text, 4)
			place := sections[1][level*13+at:]
			right := int(binary.LittleEndian.Uint16(place))
			for _, value := range wrong {
				if value == right {
					continue
				}
				binary.LittleEndian.PutUint16(place, uint16(value))
				mustNotLoad(t, "another number in TREE", assembled(len(text), 4, sections))
			}
		}
	}
}

// TestRefusedBitsBehindTheLastOne sets each of the bits that fill a byte up, in TREE and in MARKS.
func TestRefusedBitsBehindTheLastOne(t *testing.T) {
	for length := range 34 {
		text := counted(97, length)
		packed := (length + 7) / 8
		for bit := length; bit < 8*packed; bit++ {
			for level := range 8 {
				sections := referenceSections(text, 2)
				sections[1][level*(2+packed+(length+15)/16*2)+2+bit/8] |= 1 << (bit % 8)
				mustNotLoad(t, "a bit behind the last one of TREE", assembled(length, 2, sections))
			}
		}
		for bit := length + 1; bit < 8*((length+8)/8); bit++ {
			sections := referenceSections(text, 2)
			sections[3][bit/8] |= 1 << (bit % 8)
			mustNotLoad(t, "a bit behind the last one of MARKS", assembled(length, 2, sections))
			// And with a place for it.
			sections[4] = put2(sections[4], 0)
			mustNotLoad(t, "a bit behind the last one of MARKS, and its place", assembled(length, 2, sections))
		}
	}
}

func TestRefusedFirst(t *testing.T) {
	for _, text := range []string{"", "aba", counted(0, 250)} {
		for c := range 256 {
			for _, moved := range []int{-1, 1, 256, -256, 32768} {
				sections := referenceSections(text, 8)
				first := binary.LittleEndian.Uint16(sections[2][2*c:])
				binary.LittleEndian.PutUint16(sections[2][2*c:], first+uint16(moved))
				mustNotLoad(t, "another FIRST", assembled(len(text), 8, sections))
			}
		}
	}
}

// TestRefusedMarksAndPlaces gives a file the marks and places of other rates, and places in another order.
func TestRefusedMarksAndPlaces(t *testing.T) {
	for _, text := range []string{"mississippi", counted(0, 16), strings.Repeat("ab", 40), reversed(counted(0, 250))} {
		for _, rate := range rates {
			sections := referenceSections(text, rate)
			for _, other := range []int{1, 2, 3, 4, 8, 16} {
				if other == rate {
					continue
				}
				mixed := slices.Clone(sections)
				mixed[3] = referenceSections(text, other)[3]
				mustNotLoad(t, "marks of another rate", assembled(len(text), rate, mixed))
				mixed[4] = referenceSections(text, other)[4]
				mustNotLoad(t, "marks and places of another rate", assembled(len(text), rate, mixed))
				mixed[3] = sections[3]
				mustNotLoad(t, "places of another rate", assembled(len(text), rate, mixed))
			}
			places := sections[4]
			for at := 2; at+2 <= len(places); at += 2 {
				mixed := slices.Clone(sections)
				mixed[4] = slices.Concat(places[:at-2], places[at:at+2], places[at-2:at], places[at+2:])
				mustNotLoad(t, "two places in each other's place", assembled(len(text), rate, mixed))
			}
		}
	}
}

// TestRefusedMarksMoved lets another row of the same number be marked: the directory and the number of places are right.
func TestRefusedMarksMoved(t *testing.T) {
	text := "abracadabra"
	rows := referenceRows(text)
	for _, rate := range rates[1:] {
		for from, p := range rows {
			for to, q := range rows {
				if p%rate != 0 || q%rate == 0 {
					continue
				}
				marks := make([]bool, len(rows))
				var places []byte
				for i, at := range rows {
					marks[i] = at%rate == 0 && i != from || i == to
					if marks[i] {
						places = put2(places, at)
					}
				}
				sections := referenceSections(text, rate)
				sections[3], sections[4] = referenceBits(marks), places
				mustNotLoad(t, "a mark moved", assembled(len(text), rate, sections))
			}
		}
	}
}

// TestRefusedMixedSections takes each section from one of two files of one length.
func TestRefusedMixedSections(t *testing.T) {
	for _, pair := range [][2]string{{"aba", "baa"}, {"ab", "cd"}, {"mississippi", "ississippim"}, {"aabb", "abab"}, {"a", "b"}} {
		for _, rate := range rates {
			one, other := referenceSections(pair[0], rate), referenceSections(pair[1], rate)
			for choice := range 32 {
				sections := slices.Clone(one)
				for kind := range sections {
					if choice>>kind&1 == 1 {
						sections[kind] = other[kind]
					}
				}
				judge(t, "sections of two files", assembled(len(pair[0]), rate, sections))
			}
		}
	}
}

// orders gives all orders of the numbers below a count.
func orders(count int) [][]int {
	if count == 0 {
		return [][]int{nil}
	}
	var all [][]int
	for _, shorter := range orders(count - 1) {
		for at := range count {
			all = append(all, slices.Insert(slices.Clone(shorter), at, count-1))
		}
	}
	return all
}

// textsOf gives all texts of a length out of an alphabet.
func textsOf(alphabet string, length int) []string {
	texts := []string{""}
	for range length {
		var longer []string
		for _, text := range texts {
			for i := range len(alphabet) {
				longer = append(longer, text+alphabet[i:i+1])
			}
		}
		texts = longer
	}
	return texts
}

// TestRefusedColumnsOfNoText goes through all columns out of two bytes, all last rows and all ways to place the rows: the numbers hang together, but those alone are taken that are the file of one of the texts.
func TestRefusedColumnsOfNoText(t *testing.T) {
	for length := range 5 {
		for _, rate := range rates[:1+btoi(length < 4)*3] {
			files := map[string]string{}
			taken := map[string]bool{}
			for _, text := range textsOf("ab", length) {
				files[referenceFile(text, rate)] = text
			}
			eachHangingTogether(length, rate, func(file string) {
				if text, ok := files[file]; ok {
					mustTell(t, mustLoad(t, file), text, rate)
					taken[file] = true
				} else {
					mustNotLoad(t, "a column of no text", file)
				}
			})
			if len(taken) != len(files) {
				t.Errorf("P5: of the length %d by %d: %d of %d files were met", length, rate, len(taken), len(files))
			}
		}
	}
}

// eachHangingTogether goes through the bytes in which TREE and FIRST are those of some column, and MARKS and PLACES those of some order of the rows.
func eachHangingTogether(length int, rate int, judge func(file string)) {
	for _, column := range textsOf("ab", length) {
		tree, first := referenceTree([]byte(column)), referenceFirst(column, referenceRows(column))
		for _, rows := range orders(length + 1) {
			marks, places := placed(rows, rate)
			for last := range length + 1 {
				judge(assembled(length, rate, [][]byte{put2(nil, last), tree, first, marks, places}))
			}
		}
	}
}

func placed(rows []int, rate int) (marks []byte, places []byte) {
	set := make([]bool, len(rows))
	for i, at := range rows {
		set[i] = at%rate == 0
		if set[i] {
			places = put2(places, at)
		}
	}
	return referenceBits(set), places
}

// TestRefusedSeveralWalks: a column whose rows fall apart in several rings, of which one has all the marks, is of no text.
func TestRefusedSeveralWalks(t *testing.T) {
	r := rand.New(rand.NewSource(32))
	apart := 0
	for range 3000 {
		column := drawn(r, counted(97, 1+r.Intn(4)), 1+r.Intn(40))
		last := r.Intn(len(column) + 1)
		rate := rates[r.Intn(4)]
		rows := ringsOf([]byte(column), last)
		marks, places := placed(rows, rate)
		file := assembled(len(column), rate, [][]byte{put2(nil, last), referenceTree([]byte(column)), referenceFirst(column, referenceRows(column)), marks, places})
		apart += 1 - btoi(judge(t, "a column in several rings", file))
	}
	if apart < 1000 || apart > 2990 {
		t.Errorf("%d of 3000 columns are of no text", apart)
	}
}

// ringsOf places the rows of the ring of row 0 as those of a text, and the others behind them in the order of their rings.
func ringsOf(column []byte, last int) []int {
	count := len(column) + 1
	back := func(row int) int {
		if row == last {
			return 0
		}
		i := row - btoi(row > last)
		to := 1
		for j, c := range column {
			if c < column[i] || c == column[i] && j < i {
				to++
			}
		}
		return to
	}
	rows := slices.Repeat([]int{-1}, count)
	at := len(column)
	for start := range count {
		for row := start; rows[row] < 0; row = back(row) {
			rows[row] = at
			at--
		}
	}
	return rows
}

// TestRefusedAnything: no bytes make a call panic.
func TestRefusedAnything(t *testing.T) {
	r := rand.New(rand.NewSource(33))
	for range 3000 {
		b := make([]byte, r.Intn(2000))
		if r.Intn(4) > 0 {
			r.Read(b)
		}
		copy(b, "RTX1")
		if len(b) > 42 && r.Intn(4) > 0 {
			copy(b[4:], []byte{byte(r.Intn(20)), 0, byte(rates[r.Intn(4)]), 5})
			for i, size := range []int{2, 40, 512, 3, 4} {
				binary.LittleEndian.PutUint16(b[12+6*i:], uint16(size+r.Intn(3)/2*r.Intn(9)))
			}
		}
		judge(t, "anything", sized(summed(b)))
	}
}

// TestRefusedWildSections: sections of the right sizes, with any bytes in them, make no call panic.
func TestRefusedWildSections(t *testing.T) {
	r := rand.New(rand.NewSource(34))
	for range 6000 {
		length, rate := r.Intn(40), rates[r.Intn(4)]
		column := drawn(r, "abc", length)
		sections := referenceSections(column, rate)
		for range 1 + r.Intn(2) {
			r.Read(sections[r.Intn(5)])
		}
		if r.Intn(2) == 0 {
			sections[0] = put2(nil, r.Intn(length+3))
		}
		judge(t, "any bytes in sections", assembled(length, rate, sections))
	}
}
