package rotor_test

import (
	"math"
	"math/rand"
	"slices"
	"strings"
	"testing"

	"rotor/api"
	"rotor/rotor"
)

// standing tells all places of p in a text by holding it against every one.
func standing(text string, p string) []int {
	places := []int{}
	for at := range len(text) + 1 {
		if len(text)-at >= len(p) && text[at:at+len(p)] == p {
			places = append(places, at)
		}
	}
	return places
}

// short keeps what a failing test tells readable.
func short(p string) string {
	if len(p) > 300 {
		return p[:300] + ".."
	}
	return p
}

func mustCount(t *testing.T, x *rotor.Index, text string, p string) {
	t.Helper()
	if n, want := x.Count(p), len(standing(text, p)); n != want {
		t.Fatalf("P7: of %q by %d: Count(%q) = %d, want %d", text, x.Rate(), short(p), n, want)
	}
}

// mustLocate holds a list against the first places, or against ErrArg, and then spoils it: it is the caller's.
func mustLocate(t *testing.T, x *rotor.Index, text string, p string, most int) {
	t.Helper()
	want, wantError := standing(text, p), api.OK
	if most < 0 {
		want, wantError = nil, api.ErrArg
	} else {
		want = want[:min(most, len(want))]
	}
	list, e := x.Locate(p, most)
	if !slices.Equal(list, want) || e != wantError {
		t.Fatalf("P8: of %q by %d: Locate(%q, %d) = %v, error %d, want %v, %d", text, x.Rate(), short(p), most, list, e, want, wantError)
	}
	spoil(list)
}

// spoil writes over a list and into all the room behind it.
func spoil(list []int) {
	list = list[:cap(list)]
	for i := range list {
		list[i] = -7 - i
	}
}

// mustFind asks for p with every bound around the number of its places, and with wrong ones.
func mustFind(t *testing.T, x *rotor.Index, text string, p string) {
	t.Helper()
	mustCount(t, x, text, p)
	n := len(standing(text, p))
	for _, most := range []int{math.MinInt, -1, 0, 1, n - 1, n, n + 1, math.MaxInt} {
		mustLocate(t, x, text, p, most)
	}
	mustCount(t, x, text, p)
}

// mustFindAll asks the indexes of a text by all rates.
func mustFindAll(t *testing.T, text string, patterns ...string) {
	t.Helper()
	for _, rate := range rates {
		x := mustLoad(t, mustBuild(t, text, rate))
		for _, p := range patterns {
			mustFind(t, x, text, p)
		}
		mustTell(t, x, text, rate)
	}
}

func TestCountExamples(t *testing.T) {
	x := mustLoad(t, mustBuild(t, "aba", 2))
	for p, want := range map[string]int{"a": 2, "": 4, "ab": 1, "c": 0} {
		if n := x.Count(p); n != want {
			t.Errorf("P7: Count(%q) of aba = %d, want %d", p, n, want)
		}
	}
}

func TestLocateExamples(t *testing.T) {
	x := mustLoad(t, mustBuild(t, "aba", 2))
	if list, e := x.Locate("a", 9); !slices.Equal(list, []int{0, 2}) || e != api.OK {
		t.Errorf("P8: Locate(\"a\", 9) of aba = %v, error %d", list, e)
	}
	if list, e := x.Locate("", 2); !slices.Equal(list, []int{0, 1}) || e != api.OK {
		t.Errorf("P8: Locate(\"\", 2) of aba = %v, error %d", list, e)
	}
	if list, e := x.Locate("a", -1); len(list) != 0 || e != api.ErrArg {
		t.Errorf("P8: Locate(\"a\", -1) of aba = %v, error %d", list, e)
	}
}

func TestFoundInEmptyText(t *testing.T) {
	patterns := []string{"", "aa", "\x00\x00", "\xff\xff", strings.Repeat("a", 300)}
	for c := range 256 {
		patterns = append(patterns, string([]byte{byte(c)}))
	}
	mustFindAll(t, "", patterns...)
}

// TestFoundEveryPiece asks for all pieces of texts, and for each of them with another byte ahead of it or behind it.
func TestFoundEveryPiece(t *testing.T) {
	for _, text := range []string{
		"a", "ab", "aba", "banana", "abracadabra", "mississippi", "\x00\x00\xff\x00", "\xff\x00\xff\xff", "\x7f\x80\x7f\x80\x80", "größer",
	} {
		var patterns []string
		for from := range len(text) + 1 {
			for to := from; to <= len(text); to++ {
				p := text[from:to]
				patterns = append(patterns, p, p+"a", "a"+p, p+"\x00", "\x00"+p, p+"\xff", "\xff"+p)
			}
		}
		mustFindAll(t, text, patterns...)
	}
}

// TestFoundShortTexts asks all short texts of few bytes for all short texts.
func TestFoundShortTexts(t *testing.T) {
	for _, alphabet := range []string{"ab", "\x00\xff"} {
		var all []string
		for length := range 7 {
			all = append(all, textsOf(alphabet, length)...)
		}
		for _, text := range all {
			if len(text) < 6 || alphabet == "ab" {
				mustFindAll(t, text, all...)
			}
		}
	}
}

// TestFoundEveryByte asks for each byte, where it stands once, often or not at all, and beside its neighbours.
func TestFoundEveryByte(t *testing.T) {
	rising, falling := counted(0, 250), reversed(counted(6, 250))
	var patterns []string
	for c := range 256 {
		here, next := byte(c), byte(c+1)
		patterns = append(patterns, string([]byte{here}), string([]byte{here, here}), string([]byte{here, next}), string([]byte{next, here}))
		one := string([]byte{here})
		mustFindAll(t, one, "", one, one+one, string([]byte{next}), string([]byte{here - 1}))
		mustFindAll(t, one+string([]byte{next, here, here - 1})+one+one, "", one, one+one, one+one+one, string([]byte{next}), string([]byte{here - 1}))
	}
	mustFindAll(t, rising, patterns...)
	mustFindAll(t, falling, patterns...)
	mustFindAll(t, "aba", patterns...)
}

// TestFoundOneByteOverAndOver: places overlap, and the number of them falls by one with each byte more.
func TestFoundOneByteOverAndOver(t *testing.T) {
	for _, c := range []string{"a", "\x00", "\xff"} {
		for _, length := range []int{1, 2, 7, 8, 9, 15, 16, 17, 31, 32, 33, 249, 250} {
			var patterns []string
			for n := 0; n <= length+2; n += 1 + length/40 {
				patterns = append(patterns, strings.Repeat(c, n))
			}
			whole := strings.Repeat(c, length)
			patterns = append(patterns, whole, whole[1:], whole+c, "b", c+"b", "b"+c, whole+"b", "b"+whole)
			mustFindAll(t, whole, patterns...)
		}
	}
}

// TestFoundOverlapping counts every place, those that lie in one another too.
func TestFoundOverlapping(t *testing.T) {
	mustFindAll(t, strings.Repeat("ab", 125), "ab", "ba", "aba", "abab", "babab", "abb", strings.Repeat("ab", 60), strings.Repeat("ab", 125), strings.Repeat("ab", 126))
	mustFindAll(t, strings.Repeat("abc", 83), "abc", "bca", "cab", "abcab", "cc", strings.Repeat("bca", 40), strings.Repeat("bca", 83))
	mustFindAll(t, "aabaabaabaab", "aabaab", "aab", "abaa", "baabaa", "aa")
}

// TestFoundNotRoundTheEnd: nothing stands partly at the text's end and partly at its beginning.
func TestFoundNotRoundTheEnd(t *testing.T) {
	for _, text := range []string{"abc", "banana", "\x00a", "a\x00", "\xff\x00", "\x00\xff", "mississippi", counted(3, 250)} {
		var patterns []string
		for split := 1; split < len(text); split++ {
			patterns = append(patterns, text[split:]+text[:split], text[split:]+text[:1], text[len(text)-1:]+text[:split])
			patterns = append(patterns, text[split:]+"\x00", text[split:]+"\x00"+text[:split])
		}
		mustFindAll(t, text, patterns...)
	}
}

// TestFoundEveryLength goes through all numbers of rows: of each text all of it, its beginning and its end, and what is longer.
func TestFoundEveryLength(t *testing.T) {
	r := rand.New(rand.NewSource(31))
	for length := range api.MaxText + 1 {
		text := drawn(r, []string{"ab", "ab\x00\xff", counted(0, 256)}[length%3], length)
		half := length / 2
		mustFindAll(t, text,
			"", text, text[:half], text[half:], text[:min(1, length)], text[max(0, length-1):],
			text[:max(0, length-1)], text[min(1, length):], text[min(2, length):half+min(1, length-half)],
			text+"a", "a"+text, text+text+"b", "a", "b", "ab", "\x00", "\xff")
	}
}

func TestFoundInMaxText(t *testing.T) {
	r := rand.New(rand.NewSource(32))
	for _, alphabet := range []string{counted(0, 256), "a", "ab", "\x00\xff", "\x7f\x80", "acgt", "\x55\xaa"} {
		text := drawn(r, alphabet, api.MaxText)
		patterns := []string{"", text, text[:249], text[1:], text + "a", text + text[:1], text[249:] + text, text[:125], text[125:]}
		for range 100 {
			from := r.Intn(api.MaxText + 1)
			p := text[from:min(api.MaxText, from+r.Intn(8))]
			patterns = append(patterns, p, p+drawn(r, alphabet, 1), drawn(r, alphabet, 1)+p, drawn(r, alphabet, 1+r.Intn(4)))
		}
		mustFindAll(t, text, patterns...)
	}
}

// TestFoundOfLongPatterns: what is far longer than the text is answered too, and at once.
func TestFoundOfLongPatterns(t *testing.T) {
	for _, text := range []string{"", "a", "aba", strings.Repeat("a", 250), counted(0, 250)} {
		patterns := []string{strings.Repeat("a", 1<<24), "b" + strings.Repeat("a", 65536), strings.Repeat(text, 300) + "a", strings.Repeat("\x00", 65536) + text}
		for _, length := range []int{251, 255, 256, 257, 65535, 65536, 65537, 65536 + 250} {
			patterns = append(patterns, strings.Repeat("a", length))
		}
		mustFindAll(t, text, patterns...)
	}
}

// TestLocateByEveryBound takes every number of places, and bounds that are far off.
func TestLocateByEveryBound(t *testing.T) {
	far := []int{
		math.MinInt, math.MinInt + 1, -1 << 32, math.MinInt32, -65536, -256, -2, -1,
		255, 256, 257, 65535, 65536, 65537, math.MaxInt32, 1 << 31, 1 << 32, 1<<32 + 1, 1 << 62, math.MaxInt - 1, math.MaxInt,
	}
	for _, text := range []string{"", "aba", "mississippi", strings.Repeat("ab", 125), strings.Repeat("\xff", 250)} {
		for _, rate := range rates {
			x := mustLoad(t, mustBuild(t, text, rate))
			for _, p := range []string{"", "a", "b", "s", "ss", "issi", "ab", "ba", "\xff", "\xff\xff", text, text + "a"} {
				for _, most := range far {
					mustLocate(t, x, text, p, most)
				}
				for most := range len(text) + 4 {
					mustLocate(t, x, text, p, most)
				}
			}
		}
	}
}

func TestFoundDrawn(t *testing.T) {
	r := rand.New(rand.NewSource(33))
	for range 400 {
		alphabet := counted(r.Intn(256), 1+r.Intn(1+r.Intn(256)))
		text := drawn(r, alphabet, r.Intn(api.MaxText+1))
		rate := rates[r.Intn(4)]
		x := mustLoad(t, mustBuild(t, text, rate), r.Intn(65), 0, r.Intn(65))
		for range 30 {
			mustFind(t, x, text, drawnPattern(r, text, alphabet))
		}
		mustTell(t, x, text, rate)
	}
}

// drawnPattern gives a piece of the text, or one with a byte changed, or anything.
func drawnPattern(r *rand.Rand, text string, alphabet string) string {
	from := r.Intn(len(text) + 1)
	p := []byte(text[from:min(len(text), from+r.Intn(1+r.Intn(20)))])
	switch {
	case r.Intn(3) == 0 && len(p) > 0:
		p[r.Intn(len(p))] = byte(r.Intn(256))
	case r.Intn(3) == 0:
		return drawn(r, alphabet, r.Intn(5))
	}
	return string(p)
}
