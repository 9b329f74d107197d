package rotor_test

import (
	"encoding/hex"
	"hash/crc32"
	"math"
	"math/rand"
	"strings"
	"sync"
	"testing"

	"rotor/api"
	"rotor/rotor"
)

var rates = []int{1, 2, 4, 8}

// counted gives the bytes from the first one on, rising and going round.
func counted(first int, length int) string {
	b := make([]byte, length)
	for i := range b {
		b[i] = byte(first + i)
	}
	return string(b)
}

func reversed(text string) string {
	b := make([]byte, len(text))
	for i := range b {
		b[i] = text[len(text)-1-i]
	}
	return string(b)
}

// drawn gives a text of so many bytes out of an alphabet.
func drawn(r *rand.Rand, alphabet string, length int) string {
	b := make([]byte, length)
	for i := range b {
		b[i] = alphabet[r.Intn(len(alphabet))]
	}
	return string(b)
}

// mustBuild holds the file of the text against the reference, byte for byte.
func mustBuild(t *testing.T, text string, rate int) string {
	t.Helper()
	file, e := rotor.Build(text, rate)
	if e != api.OK {
		t.Fatalf("P3: Build(%q, %d): error %d", text, rate, e)
	}
	want := referenceFile(text, rate)
	if file == want {
		return file
	}
	at := 0
	for at < min(len(file), len(want)) && file[at] == want[at] {
		at++
	}
	t.Fatalf("P3: Build(%q, %d): %d bytes, want %d; they part at byte %d", text, rate, len(file), len(want), at)
	return ""
}

func mustBuildByAllRates(t *testing.T, text string) {
	t.Helper()
	for _, rate := range rates {
		mustBuild(t, text, rate)
	}
}

func unhex(t *testing.T, digits string) string {
	t.Helper()
	b, err := hex.DecodeString(strings.ReplaceAll(digits, " ", ""))
	if err != nil {
		t.Fatal(err)
	}
	return string(b)
}

func TestBuildExampleABA(t *testing.T) {
	want := unhex(t, "52545831 0300 02 05 5b020000"+
		"0200be000300 2800c000aae1 000267515f40 0300c76c7303 0400fe81138c"+
		"0200"+
		"0300000000 0000070000 0000070000 0300000000 0300000000 0300000000 0200020000 0100030000"+
		strings.Repeat("0100", 98)+"0300"+strings.Repeat("0400", 157)+
		"060000"+"02000000")
	if len(want) != 603 {
		t.Fatalf("the example has %d bytes", len(want))
	}
	if file := mustBuild(t, "aba", 2); file != want {
		t.Errorf("P3: the file of aba by 2 is %x, want %x", file, want)
	}
}

func TestBuildExampleEmpty(t *testing.T) {
	for rate, digit := range map[int]string{1: "01", 2: "02", 4: "04", 8: "08"} {
		want := unhex(t, "52545831 0000"+digit+"05 41020000"+
			"020040000100 10000082f417 0002003fa892 0300421ffd00 020040000100"+
			"0000"+strings.Repeat("0000", 8)+strings.Repeat("0100", 256)+"010000"+"0000")
		if len(want) != 577 {
			t.Fatalf("the example has %d bytes", len(want))
		}
		if file := mustBuild(t, "", rate); file != want {
			t.Errorf("P3: the file of the empty text by %d is %x, want %x", rate, file, want)
		}
	}
}

// TestBuildKept holds files against sums that were made apart from the program and from the reference.
func TestBuildKept(t *testing.T) {
	mixed := make([]byte, 250)
	for k := range mixed {
		mixed[k] = byte((k*k*7 + 3*k) % 251)
	}
	for _, kept := range []struct {
		text string
		size [4]int
		sums [4]uint32
	}{
		{"mississippi", [4]int{632, 620, 614, 612}, [4]uint32{0x62f4db9a, 0x01d58364, 0x77022168, 0xb9ddf98e}},
		{counted(0, 250), [4]int{1650, 1400, 1274, 1212}, [4]uint32{0x4dc9772b, 0x47abbda0, 0x78358f94, 0x9b8aa4b2}},
		{reversed(counted(6, 250)), [4]int{1650, 1400, 1274, 1212}, [4]uint32{0xe0997dfd, 0xd7e52f7a, 0x4d72891b, 0xba3d9ac4}},
		{strings.Repeat("a", 250), [4]int{1650, 1400, 1274, 1212}, [4]uint32{0x19fbad68, 0x1ea23f87, 0x41d30e90, 0xac21db83}},
		{strings.Repeat("\xff", 250), [4]int{1650, 1400, 1274, 1212}, [4]uint32{0xd796b0c6, 0x6a15df1b, 0x472ea7d7, 0x710136e5}},
		{string(mixed), [4]int{1650, 1400, 1274, 1212}, [4]uint32{0x9e758f80, 0x62739fe9, 0x47996c6d, 0xf8e4ab76}},
	} {
		for i, rate := range rates {
			file := mustBuild(t, kept.text, rate)
			if sum := crc32.ChecksumIEEE([]byte(file)); len(file) != kept.size[i] || sum != kept.sums[i] {
				t.Errorf("P3: Build(%q, %d): %d bytes of the sum %08x, want %d of %08x", kept.text, rate, len(file), sum, kept.size[i], kept.sums[i])
			}
		}
	}
}

func TestBuildOrdinaryTexts(t *testing.T) {
	for _, text := range []string{
		"a", "ab", "ba", "banana", "abracadabra", "mississippi",
		"It was the best of times, it was the worst of times.",
		"line\nline\r\n\ttab\n",
		"größer, 日本語, \U0001f600",
	} {
		mustBuildByAllRates(t, text)
	}
}

func TestBuildAnyBytes(t *testing.T) {
	for _, text := range []string{
		"\x00", "\xff", "\x00\xff", "\xff\x00", "\x00\x00\x00", "\xff\xff\xff",
		"\x00\x01\x00", "\x7f\x80\x7f\x80", "a\x00", "\x00a", "a\x00a", "\xc3\x28\xa0\xa1",
		counted(0, 250), counted(6, 250), reversed(counted(0, 250)), reversed(counted(6, 250)),
		strings.Repeat("\x00\xff", 125),
	} {
		mustBuildByAllRates(t, text)
	}
	for c := range 256 {
		mustBuild(t, string([]byte{byte(c)}), 1)
		mustBuild(t, string([]byte{byte(c), 'a', byte(c), 0, byte(c), 255}), 2)
	}
}

// TestBuildEndsThatBeginOthers: an end that begins another one comes first, even ahead of a byte 0.
func TestBuildEndsThatBeginOthers(t *testing.T) {
	for _, text := range []string{
		"aa", "aaa", "abab", "ababab", "abcabcabcab", "aabaab", "a\x00a\x00a", "\x00\x00\x00\x00", "b\x00b",
		strings.Repeat("a", 249) + "b", "b" + strings.Repeat("a", 249), strings.Repeat("ab", 125), strings.Repeat("abc", 83),
	} {
		mustBuildByAllRates(t, text)
	}
}

// TestBuildEveryLength goes through all numbers of rows and bytes, those around multiples of 8 and of Block among them.
func TestBuildEveryLength(t *testing.T) {
	r := rand.New(rand.NewSource(5))
	all := counted(0, 256)
	for length := range api.MaxText + 1 {
		mustBuildByAllRates(t, drawn(r, all, length))
		mustBuildByAllRates(t, drawn(r, "ab\x00\xff", length))
		mustBuild(t, strings.Repeat("\xff", length), rates[length%4])
		mustBuild(t, strings.Repeat("\x00", length), rates[length%4])
	}
}

func TestBuildMaxText(t *testing.T) {
	r := rand.New(rand.NewSource(6))
	for _, alphabet := range []string{counted(0, 256), "a", "ab", "\x00\xff", "\x7f\x80", "acgt", "\x55\xaa"} {
		text := drawn(r, alphabet, api.MaxText)
		for _, rate := range rates {
			if file := mustBuild(t, text, rate); len(file) > api.MaxFile {
				t.Errorf("P3: the file of %q by %d has %d bytes", text, rate, len(file))
			}
		}
	}
}

func mustRefuse(t *testing.T, text string, rate int) {
	t.Helper()
	if file, e := rotor.Build(text, rate); e != api.ErrArg || file != "" {
		t.Errorf("P1, P3: Build of %d bytes by the rate %d: error %d and %d bytes, want error %d and none", len(text), rate, e, len(file), api.ErrArg)
	}
}

func TestBuildRefusesLongTexts(t *testing.T) {
	for _, length := range []int{251, 252, 255, 256, 257, 500, 506, 65535, 65536, 65536 + 3, 1 << 22} {
		for _, rate := range append(rates, 0, 3, -1) {
			mustRefuse(t, strings.Repeat("a", length), rate)
			mustRefuse(t, strings.Repeat("\x00", length), rate)
		}
	}
}

func TestBuildRefusesOtherRates(t *testing.T) {
	wrong := []int{
		math.MinInt, math.MinInt + 1, math.MinInt32, math.MaxInt32, math.MaxInt, math.MaxInt - 1,
		1 << 31, 1 << 32, 1<<32 + 1, 1<<32 + 8, 1 << 62, -1 << 62, 65536 + 1, 65536 + 2, 65536 + 8,
	}
	for rate := -600; rate <= 600; rate++ {
		if rate != 1 && rate != 2 && rate != 4 && rate != 8 {
			wrong = append(wrong, rate)
		}
	}
	for _, rate := range wrong {
		for _, text := range []string{"", "a", "banana", strings.Repeat("a", api.MaxText)} {
			mustRefuse(t, text, rate)
		}
	}
}

// TestBuildAnythingNoPanic: whatever it is given, a call answers a file or ErrArg with nothing.
func TestBuildAnythingNoPanic(t *testing.T) {
	r := rand.New(rand.NewSource(7))
	for range 3000 {
		length := r.Intn(api.MaxText + 6)
		text := drawn(r, counted(r.Intn(256), 1+r.Intn(256)), length)
		rate := r.Intn(12) - 1
		if r.Intn(20) == 0 {
			rate = int(r.Uint64())
		}
		isRate := rate == 1 || rate == 2 || rate == 4 || rate == 8
		if isRate && length <= api.MaxText {
			mustBuild(t, text, rate)
		} else {
			mustRefuse(t, text, rate)
		}
	}
}

// TestBuildKeepsNothing: no call leaves a trace in another one's answer, not even in one beside it.
func TestBuildKeepsNothing(t *testing.T) {
	texts := []string{"", "aba", "banana", counted(0, 250), strings.Repeat("\xff", 17)}
	var files []string
	for _, text := range texts {
		files = append(files, mustBuild(t, text, 4))
	}
	var group sync.WaitGroup
	for range 8 {
		group.Add(1)
		go func() {
			defer group.Done()
			for i, text := range texts {
				rotor.Build(text, 3)
				rotor.Build(text+text, 8)
				if file, e := rotor.Build(text, 4); file != files[i] || e != api.OK {
					t.Errorf("P2: Build(%q, 4) answers otherwise at another time", text)
				}
			}
		}()
	}
	group.Wait()
	for i, text := range texts {
		if files[i] != referenceFile(text, 4) {
			t.Errorf("P2: the file of %q was changed by later calls", text)
		}
	}
}
