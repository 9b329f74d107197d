package rotor_test

import (
	"math"
	"math/rand"
	"slices"
	"strings"
	"sync"
	"testing"
	"unsafe"

	"rotor/api"
	"rotor/rotor"
)

func mustLoad(t *testing.T, file string, sizes ...int) *rotor.Index {
	t.Helper()
	x, e := rotor.Load(&api.Source{Bytes: file, Sizes: sizes})
	if x == nil || e != api.OK {
		t.Fatalf("P5: a file of %d bytes is refused: error %d", len(file), e)
	}
	return x
}

// mustTell holds what an index tells at once against the text and the rate.
func mustTell(t *testing.T, x *rotor.Index, text string, rate int) {
	t.Helper()
	if x.Len() != len(text) || x.Rate() != rate {
		t.Fatalf("P6: of %q by %d: Len() = %d, Rate() = %d", text, rate, x.Len(), x.Rate())
	}
	if s, e := x.Extract(0, len(text)); s != text || e != api.OK {
		t.Fatalf("P6: of %q by %d: all of the text is %q, error %d", text, rate, s, e)
	}
}

// mustTake loads the files of a text by all rates.
func mustTake(t *testing.T, text string, sizes ...int) {
	t.Helper()
	for _, rate := range rates {
		mustTell(t, mustLoad(t, referenceFile(text, rate), sizes...), text, rate)
	}
}

func TestTakenTexts(t *testing.T) {
	for _, text := range []string{
		"", "a", "ab", "ba", "aba", "banana", "abracadabra", "mississippi",
		"It was the best of times, it was the worst of times.",
		"größer, 日本語, \U0001f600", "line\nline\r\n\ttab\n",
	} {
		mustTake(t, text)
		mustTake(t, text, 1, 64, 3, 0, 0, 100, 7, 0, 0, 0, 0, 0, 0, 0, 2)
	}
}

func TestTakenAnyBytes(t *testing.T) {
	for _, text := range []string{
		"\x00", "\xff", "\x00\xff", "\xff\x00", "\x00\xff\x00", "\x00\x00\x00", "\xff\xff\xff",
		"\x7f\x80\x7f\x80", "a\x00", "\x00a", "a\x00a", "\xc3\x28\xa0\xa1",
		counted(0, 250), counted(6, 250), reversed(counted(0, 250)), reversed(counted(6, 250)),
	} {
		mustTake(t, text)
	}
	for c := range 256 {
		mustTake(t, string([]byte{byte(c)}))
		mustTake(t, string([]byte{byte(c), 'a', byte(c), 0, byte(c), 255}))
	}
}

func TestTakenEndsThatBeginOthers(t *testing.T) {
	for _, text := range []string{
		"aa", "aaa", "abab", "ababab", "abcabcabcab", "aabaab", "a\x00a\x00a", "\x00\x00\x00\x00", "b\x00b",
		strings.Repeat("a", 249) + "b", "b" + strings.Repeat("a", 249), strings.Repeat("ab", 125), strings.Repeat("abc", 83),
	} {
		mustTake(t, text)
	}
}

// TestTakenEveryLength goes through all numbers of rows, those around multiples of 8 and of Block among them.
func TestTakenEveryLength(t *testing.T) {
	r := rand.New(rand.NewSource(21))
	for length := range api.MaxText + 1 {
		mustTake(t, drawn(r, counted(0, 256), length))
		mustTake(t, drawn(r, "ab\x00\xff", length), 63, 5, 0, 0, 1)
		mustTake(t, strings.Repeat(string(rune('a'+length%3)), length))
	}
}

// TestTakenShortTexts goes through all short texts of few bytes.
func TestTakenShortTexts(t *testing.T) {
	for length := range 8 {
		for _, text := range textsOf("ab", length) {
			mustTake(t, text)
		}
	}
	for length := range 5 {
		for _, text := range textsOf("\x00a\xff", length) {
			mustTake(t, text)
		}
	}
}

func TestTakenMaxText(t *testing.T) {
	r := rand.New(rand.NewSource(22))
	for _, alphabet := range []string{counted(0, 256), "a", "ab", "\x00\xff", "\x7f\x80", "acgt", "\x55\xaa"} {
		mustTake(t, drawn(r, alphabet, api.MaxText))
	}
}

// TestTakenOfBuild: what Build makes is taken.
func TestTakenOfBuild(t *testing.T) {
	r := rand.New(rand.NewSource(23))
	for range 300 {
		text := drawn(r, counted(r.Intn(256), 1+r.Intn(256)), r.Intn(api.MaxText+1))
		rate := rates[r.Intn(4)]
		file, _ := rotor.Build(text, rate)
		mustTell(t, mustLoad(t, file, r.Intn(65), r.Intn(65), 0, 1), text, rate)
	}
}

func TestExtractExamples(t *testing.T) {
	x := mustLoad(t, mustBuild(t, "aba", 2))
	if s, e := x.Extract(1, 3); s != "ba" || e != api.OK {
		t.Errorf("P6: Extract(1, 3) of aba = %q, error %d", s, e)
	}
	if s, e := x.Extract(1, 4); s != "" || e != api.ErrArg {
		t.Errorf("P6: Extract(1, 4) of aba = %q, error %d", s, e)
	}
}

// TestExtractEveryPiece goes through all pairs of places, those outside of the text among them.
func TestExtractEveryPiece(t *testing.T) {
	for _, text := range []string{"", "a", "aba", "mississippi", "\x00\xff\x00\x00", counted(100, 33)} {
		for _, rate := range rates {
			x := mustLoad(t, mustBuild(t, text, rate))
			for from := -3; from <= len(text)+3; from++ {
				for to := -3; to <= len(text)+3; to++ {
					mustExtract(t, x, text, from, to)
				}
			}
		}
	}
}

// mustExtract holds one piece against the text, or against ErrArg.
func mustExtract(t *testing.T, x *rotor.Index, text string, from int, to int) {
	t.Helper()
	want, wantError := "", api.ErrArg
	if from >= 0 && to >= from && to <= len(text) {
		want, wantError = text[from:to], api.OK
	}
	if s, e := x.Extract(from, to); s != want || e != wantError {
		t.Errorf("P6: of %q: Extract(%d, %d) = %q, error %d, want %q, %d", text, from, to, s, e, want, wantError)
	}
}

func TestExtractOfMaxText(t *testing.T) {
	r := rand.New(rand.NewSource(24))
	text := drawn(r, "abc", api.MaxText)
	for _, rate := range rates {
		x := mustLoad(t, mustBuild(t, text, rate))
		for range 1000 {
			mustExtract(t, x, text, r.Intn(256)-3, r.Intn(256)-3)
		}
		for place := range api.MaxText + 1 {
			mustExtract(t, x, text, place, place)
			mustExtract(t, x, text, place, place+1)
			mustExtract(t, x, text, 0, place)
			mustExtract(t, x, text, place, api.MaxText)
		}
	}
}

func TestExtractFarOff(t *testing.T) {
	far := []int{
		math.MinInt, math.MinInt + 1, math.MinInt32, -65536, -256, -1, 0, 1, 3, 4, 250, 251, 255, 256, 257,
		65535, 65536, 65539, math.MaxInt32, 1 << 32, 1<<32 + 1, math.MaxInt - 1, math.MaxInt,
	}
	for _, text := range []string{"", "aba", counted(0, 250)} {
		x := mustLoad(t, mustBuild(t, text, 4))
		for _, from := range far {
			for _, to := range far {
				mustExtract(t, x, text, from, to)
			}
		}
	}
}

// TestIndexAnswersTheSame: neither being asked, nor other indexes, nor its source's owner change what an index tells.
func TestIndexAnswersTheSame(t *testing.T) {
	text := "abracadabra"
	s := &api.Source{Bytes: mustBuild(t, text, 4), Sizes: []int{5, 0, 9}}
	x, _ := rotor.Load(s)
	mustTell(t, x, text, 4)
	s.Bytes = mustBuild(t, "other", 1)
	s.Sizes[0], s.Sizes[2] = 1, 2
	s.Calls = 0
	mustTell(t, x, text, 4)
	y, _ := rotor.Load(s)
	mustTell(t, y, "other", 1)
	*s = api.Source{Bytes: "no file"}
	if _, e := rotor.Load(s); e != api.ErrFormat {
		t.Errorf("P5: no file: error %d", e)
	}
	for range 3 {
		x.Extract(-1, 0)
		x.Extract(3, 9)
		mustTell(t, x, text, 4)
		mustTell(t, y, "other", 1)
	}
}

// TestIndexKeepsNoBytesOfItsSource writes over the very memory that was read.
func TestIndexKeepsNoBytesOfItsSource(t *testing.T) {
	text := counted(50, 100)
	for _, rate := range rates {
		memory := []byte(mustBuild(t, text, rate))
		x := mustLoad(t, unsafe.String(&memory[0], len(memory)))
		clear(memory)
		mustTell(t, x, text, rate)
		mustFind(t, x, text, "")
		mustFind(t, x, text, text[20:22])
	}
}

func TestIndexSideBySide(t *testing.T) {
	texts := []string{"", "aba", "banana", counted(0, 250), strings.Repeat("\xff", 17)}
	var indexes []*rotor.Index
	for _, text := range texts {
		indexes = append(indexes, mustLoad(t, mustBuild(t, text, 2)))
	}
	var group sync.WaitGroup
	for range 8 {
		group.Add(1)
		go func() {
			defer group.Done()
			for i, text := range texts {
				if s, e := indexes[i].Extract(0, len(text)); s != text || e != api.OK {
					t.Errorf("P2: of %q, asked by several at once: %q, error %d", text, s, e)
				}
				all := standing(text, "")
				if n := indexes[i].Count(""); n != len(all) {
					t.Errorf("P2: of %q, asked by several at once: %d places, want %d", text, n, len(all))
				}
				if list, e := indexes[i].Locate("", math.MaxInt); !slices.Equal(list, all) || e != api.OK {
					t.Errorf("P2: of %q, asked by several at once: all places are %v, error %d", text, list, e)
				}
			}
		}()
	}
	group.Wait()
}

// TestNoIndexNoPanic: with an error Load gives nil, and that may be asked too.
func TestNoIndexNoPanic(t *testing.T) {
	x, _ := rotor.Load(nil)
	for _, none := range []*rotor.Index{x, {}} {
		if none.Len() != 0 || none.Rate() != 0 {
			t.Errorf("P1: of no text: Len() = %d, Rate() = %d", none.Len(), none.Rate())
		}
		if s, e := none.Extract(0, 0); s != "" || e != api.ErrArg {
			t.Errorf("P1: of no text: Extract(0, 0) = %q, error %d", s, e)
		}
		if n := none.Count(""); n != 0 {
			t.Errorf("P1: of no text: Count(\"\") = %d", n)
		}
		if list, e := none.Locate("", 1); len(list) != 0 || e != api.ErrArg {
			t.Errorf("P1: of no text: Locate(\"\", 1) = %v, error %d", list, e)
		}
	}
}
