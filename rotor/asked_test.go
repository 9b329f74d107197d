package rotor_test

import (
	"math"
	"math/rand"
	"slices"
	"strings"
	"testing"

	"rotor/api"
	"rotor/rotor"
)

// asks are calls of all kinds, each held against what the text says.
func asks(t *testing.T, text string, rate int) []func(x *rotor.Index) {
	half := len(text) / 2
	return []func(x *rotor.Index){
		func(x *rotor.Index) { mustTell(t, x, text, rate) },
		func(x *rotor.Index) { mustExtract(t, x, text, half, len(text)) },
		func(x *rotor.Index) { mustExtract(t, x, text, half, math.MaxInt) },
		func(x *rotor.Index) { mustCount(t, x, text, text[half:]) },
		func(x *rotor.Index) { mustLocate(t, x, text, "", math.MaxInt) },
		func(x *rotor.Index) { mustLocate(t, x, text, text[:min(1, half)], 2) },
		func(x *rotor.Index) { mustLocate(t, x, text, "a", -1) },
	}
}

// TestAskedInEveryOrder puts the calls in all orders, on an index that is asked for the first time and on one that was asked before.
func TestAskedInEveryOrder(t *testing.T) {
	text, rate := "abracadabra", 4
	file := mustBuild(t, text, rate)
	old := mustLoad(t, file)
	calls := asks(t, text, rate)
	for _, order := range orders(len(calls)) {
		fresh := mustLoad(t, file)
		for _, call := range order {
			calls[call](fresh)
			calls[call](old)
			calls[call](fresh)
		}
	}
}

// TestAskedInTurns asks several indexes in turns, indexes of one text among them, while others are built, loaded and refused.
func TestAskedInTurns(t *testing.T) {
	r := rand.New(rand.NewSource(41))
	type asked struct {
		x    *rotor.Index
		text string
		rate int
	}
	var all []asked
	for _, text := range []string{"", "aba", "aba", "banana", strings.Repeat("a", 250), drawn(r, "ab\x00\xff", 250), counted(0, 250)} {
		rate := rates[len(all)%4]
		all = append(all, asked{mustLoad(t, mustBuild(t, text, rate)), text, rate})
	}
	for range 4000 {
		i := r.Intn(len(all))
		calls := asks(t, all[i].text, all[i].rate)
		calls[r.Intn(len(calls))](all[i].x)
		mustCount(t, all[i].x, all[i].text, drawnPattern(r, all[i].text, "ab\x00\xff"))
		mustLocate(t, all[i].x, all[i].text, drawnPattern(r, all[i].text, "ab\x00\xff"), r.Intn(300)-20)
		switch r.Intn(20) {
		case 0:
			all[i].x = mustLoad(t, mustBuild(t, all[i].text, all[i].rate), r.Intn(64))
		case 1:
			rotor.Build("abc", 3)
			rotor.Load(&api.Source{Bytes: "no file"})
		}
	}
}

// TestListsAreTheCallers: what is written into a list, or behind it, is seen neither in the index nor in another list.
func TestListsAreTheCallers(t *testing.T) {
	text := strings.Repeat("ab", 20)
	for _, rate := range rates {
		x := mustLoad(t, mustBuild(t, text, rate))
		for _, p := range []string{"", "a", "ba", "abab", text, "c"} {
			places := standing(text, p)
			for most := range len(places) + 2 {
				want := places[:min(most, len(places))]
				first, _ := x.Locate(p, most)
				second, _ := x.Locate(p, most)
				longer := append(first, 1000, 1001, 1002)
				spoil(first)
				spoil(longer)
				if !slices.Equal(second, want) {
					t.Fatalf("P2: Locate(%q, %d) by %d: a list is %v after another one was written over, want %v", p, most, rate, second, want)
				}
				third, _ := x.Locate(p, most)
				spoil(second)
				if !slices.Equal(third, want) {
					t.Fatalf("P2: Locate(%q, %d) by %d: the list is %v after earlier ones were written over, want %v", p, most, rate, third, want)
				}
			}
		}
		mustTell(t, x, text, rate)
	}
}
