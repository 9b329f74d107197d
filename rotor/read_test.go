package rotor_test

import (
	"math"
	"math/rand"
	"slices"
	"strings"
	"testing"

	"rotor/api"
	"rotor/rotor"
)

// modelReads tells how many reads there must be of a source of so many bytes, and whether one of them ends the reading.
func modelReads(size int, sizes []int) (reads int, fails bool) {
	at, nothing := 0, 0
	for at < size {
		gives := min(64, size-at)
		if reads < len(sizes) {
			gives = min(gives, sizes[reads])
		}
		reads++
		if gives < 0 {
			return reads, true
		}
		at += gives
		if gives > 0 {
			nothing = 0
		} else if nothing++; nothing == 8 {
			return reads, true
		}
	}
	return reads, false
}

// mustRead loads bytes by a pattern of reads, and holds the error, the reads and the source against what they must be.
func mustRead(t *testing.T, file string, sizes []int, reads int, want api.Errno) {
	t.Helper()
	s := &api.Source{Bytes: file, Sizes: slices.Clone(sizes)}
	x, e := rotor.Load(s)
	if e != want || s.Calls != reads {
		t.Errorf("P4: %d bytes by the sizes %v: error %d after %d reads, want %d after %d", len(file), sizes, e, s.Calls, want, reads)
	}
	if (x == nil) != (e != api.OK) {
		t.Errorf("P1: %d bytes by the sizes %v: error %d, but the index is %v", len(file), sizes, e, x)
	}
	if s.Bytes != file || !slices.Equal(s.Sizes, sizes) {
		t.Errorf("P2: the source was changed by more than its reads")
	}
}

func nothing(times int) []int { return make([]int, times) }

func TestLoadNil(t *testing.T) {
	if x, e := rotor.Load(nil); x != nil || e != api.ErrArg {
		t.Errorf("P4: Load(nil) = %v, error %d", x, e)
	}
}

func TestLoadLarge(t *testing.T) {
	file := mustBuild(t, "aba", 2)
	for _, size := range []int{4001, 4002, 4064, 5000, 65536, 65536 + 603, 1 << 22} {
		for _, sizes := range [][]int{nil, {-1}, {0, 0, 0, 0, 0, 0, 0, 0}, {64}} {
			mustRead(t, strings.Repeat("R", size), sizes, 0, api.ErrLarge)
			mustRead(t, file+strings.Repeat("\x00", size-len(file)), sizes, 0, api.ErrLarge)
		}
	}
}

func TestLoadJustMaxFile(t *testing.T) {
	file := mustBuild(t, "aba", 2)
	for _, bytes := range []string{strings.Repeat("R", 4000), file + strings.Repeat("\x00", 4000-len(file))} {
		mustRead(t, bytes, nil, 63, api.ErrFormat)
		mustRead(t, bytes, []int{-1}, 1, api.ErrIO)
		mustRead(t, bytes, append(slices.Repeat([]int{64}, 62), -1), 63, api.ErrIO)
		mustRead(t, bytes, append(slices.Repeat([]int{64}, 62), 31, -1), 64, api.ErrIO)
		mustRead(t, bytes, append(slices.Repeat([]int{64}, 62), 31, 1, -1), 64, api.ErrFormat)
		mustRead(t, bytes, slices.Repeat([]int{1}, 4000), 4000, api.ErrFormat)
	}
	mustRead(t, strings.Repeat("R", 3999), nil, 63, api.ErrFormat)
}

func TestLoadEmptyReadsNothing(t *testing.T) {
	for _, sizes := range [][]int{nil, {-1}, nothing(8), {1}, {math.MinInt}} {
		mustRead(t, "", sizes, 0, api.ErrFormat)
	}
}

// TestLoadAsksForMaxRead: each read asks for 64 bytes, whatever the source would give.
func TestLoadAsksForMaxRead(t *testing.T) {
	for _, text := range []string{"", "a", "aba", counted(0, 250)} {
		for _, rate := range rates {
			file := mustBuild(t, text, rate)
			reads := (len(file) + 63) / 64
			for _, size := range []int{64, 65, 100, 4000, math.MaxInt} {
				mustRead(t, file, slices.Repeat([]int{size}, 100), reads, api.OK)
			}
			mustRead(t, file, nil, reads, api.OK)
			mustRead(t, file, []int{63}, reads+btoi(len(file)%64 == 0), api.OK)
		}
	}
}

func btoi(holds bool) int {
	if holds {
		return 1
	}
	return 0
}

func TestLoadFewerThanAskedFor(t *testing.T) {
	file := mustBuild(t, "abracadabra", 4)
	for size := 1; size <= 64; size++ {
		sizes := slices.Repeat([]int{size}, len(file))
		mustRead(t, file, sizes, (len(file)+size-1)/size, api.OK)
	}
}

func TestLoadNothingSevenAndEightTimes(t *testing.T) {
	file := mustBuild(t, "mississippi", 2)
	whole := (len(file) + 63) / 64
	for _, first := range [][]int{nil, {64}, {1}, {5, 64, 64}, slices.Repeat([]int{64}, whole-1)} {
		rest := len(file)
		for _, size := range first {
			rest -= size
		}
		reads := len(first) + (rest+63)/64
		mustRead(t, file, slices.Concat(first, nothing(7)), reads+7, api.OK)
		mustRead(t, file, slices.Concat(first, nothing(8)), len(first)+8, api.ErrIO)
		mustRead(t, file, slices.Concat(first, nothing(9)), len(first)+8, api.ErrIO)
		mustRead(t, file, slices.Concat(first, nothing(7), []int{-1}), len(first)+8, api.ErrIO)
		// A byte between two runs of seven ends the first one.
		mustRead(t, file, slices.Concat(first, nothing(7), []int{1}, nothing(7)), len(first)+15+(rest-1+63)/64, api.OK)
		mustRead(t, file, slices.Concat(first, nothing(7), []int{1}, nothing(8)), len(first)+16, api.ErrIO)
	}
	var sevens []int
	for range len(file) {
		sevens = append(sevens, 0, 0, 0, 0, 0, 0, 0, 1)
	}
	mustRead(t, file, sevens, 8*len(file), api.OK)
	// Behind the last byte nothing is asked for any more.
	mustRead(t, file, slices.Concat(slices.Repeat([]int{64}, whole), nothing(8)), whole, api.OK)
}

func TestLoadReadsThatFail(t *testing.T) {
	file := mustBuild(t, "mississippi", 2)
	whole := (len(file) + 63) / 64
	for _, failure := range []int{-1, -2, -64, math.MinInt, math.MinInt32} {
		for ahead := range whole {
			mustRead(t, file, append(slices.Repeat([]int{64}, ahead), failure), ahead+1, api.ErrIO)
			mustRead(t, file, append(slices.Repeat([]int{1}, ahead), failure, 64), ahead+1, api.ErrIO)
		}
		mustRead(t, file, append(slices.Repeat([]int{64}, whole), failure), whole, api.OK)
		mustRead(t, file, append(nothing(7), failure), 8, api.ErrIO)
	}
}

// TestLoadReadsToTheEnd: what is no file is told when all of it was read, and a failure goes ahead of it.
func TestLoadReadsToTheEnd(t *testing.T) {
	for _, bytes := range []string{"R", "X", strings.Repeat("X", 64), strings.Repeat("X", 65), strings.Repeat("RTX2", 300)} {
		whole := (len(bytes) + 63) / 64
		mustRead(t, bytes, nil, whole, api.ErrFormat)
		mustRead(t, bytes, append(slices.Repeat([]int{64}, whole-1), -1), whole, api.ErrIO)
		mustRead(t, bytes, append(slices.Repeat([]int{64}, whole-1), nothing(8)...), whole+7, api.ErrIO)
	}
}

func TestLoadAnyPatternOfReads(t *testing.T) {
	r := rand.New(rand.NewSource(11))
	file := mustBuild(t, "It was the best of times, it was the worst of times.", 2)
	broken := file[:len(file)-1] + "\x01"
	for range 4000 {
		sizes := make([]int, r.Intn(80))
		for i := range sizes {
			sizes[i] = r.Intn(70)
			if r.Intn(3) > 0 {
				sizes[i] = 0
			}
			if r.Intn(60) == 0 {
				sizes[i] = -1 - r.Intn(70)
			}
		}
		reads, fails := modelReads(len(file), sizes)
		if fails {
			mustRead(t, file, sizes, reads, api.ErrIO)
			mustRead(t, broken, sizes, reads, api.ErrIO)
		} else {
			mustRead(t, file, sizes, reads, api.OK)
			mustRead(t, broken, sizes, reads, api.ErrFormat)
		}
	}
}

// TestLoadGoesOnWithCalls: a source that was read before is read on as it stands; its calls are not set anew.
func TestLoadGoesOnWithCalls(t *testing.T) {
	file := mustBuild(t, "aba", 2) // 603 bytes: 10 reads, if each gives all
	for _, c := range []struct {
		sizes []int
		calls int
		grown int
		want  api.Errno
	}{
		{[]int{-1, 3, 0, 64}, 0, 1, api.ErrIO},
		{[]int{-1, 3, 0, 64}, 1, 12, api.OK},
		{[]int{-1, 3, 0, 64}, 2, 11, api.OK},
		{[]int{-1, 3, 0, 64}, 3, 10, api.OK},
		{[]int{-1, 3, 0, 64}, 4, 10, api.OK},
		{[]int{-1, 3, 0, 64}, -1, 2, api.ErrIO},
		{[]int{-1, 3, 0, 64}, -10, 10, api.OK},
		{[]int{-1}, 1000, 10, api.OK},
		{[]int{-1}, math.MinInt, 10, api.OK},
		{[]int{-1}, math.MaxInt, 10, api.OK},
		{[]int{-1}, math.MaxInt - 3, 10, api.OK},
	} {
		s := &api.Source{Bytes: file, Sizes: c.sizes, Calls: c.calls}
		if _, e := rotor.Load(s); e != c.want || s.Calls-c.calls != c.grown {
			t.Errorf("P4: with %d calls ahead: error %d after %d reads, want %d after %d", c.calls, e, s.Calls-c.calls, c.want, c.grown)
		}
	}
}
