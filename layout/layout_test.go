package layout

import (
	"slices"
	"testing"

	"rotor/api"
)

func TestRowsOfExample(t *testing.T) {
	rows := rowsOf("aba")
	if !slices.Equal(rows, []int{3, 2, 0, 1}) {
		t.Errorf("the rows of aba are at %v", rows)
	}
	if column := columnOf("aba", rows); string(column) != "aba" {
		t.Errorf("the column of aba is %q", column)
	}
	if rows := rowsOf(""); !slices.Equal(rows, []int{0}) {
		t.Errorf("the rows of the empty text are at %v", rows)
	}
}

func TestShorterEndsComeFirst(t *testing.T) {
	if rows := rowsOf("\x00\x00\x00"); !slices.Equal(rows, []int{3, 2, 1, 0}) {
		t.Errorf("the rows of three zeros are at %v", rows)
	}
}

func TestSplitKeepsOrder(t *testing.T) {
	zeros, ones := split([]byte("dcbadcba"), 1)
	if string(zeros) != "dbdb" || string(ones) != "caca" {
		t.Errorf("the column is split in %q and %q", zeros, ones)
	}
}

func TestSizesOfLargestFile(t *testing.T) {
	text := string(make([]byte, api.MaxText))
	want := [api.Sections]int{2, 528, 512, 64, 502}
	for i, section := range sectionsOf(text, 1) {
		if len(section) != want[i] {
			t.Errorf("section %d has %d bytes, want %d", i+1, len(section), want[i])
		}
	}
}
