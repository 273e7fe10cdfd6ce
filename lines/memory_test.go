package lines_test

import (
	"slices"
	"strings"
	"testing"

	"triage/api"
	"triage/lines"
)

// TestSplitMemory: R2: no two rows of words share memory, not even behind their lengths, and each answer is its own.
func TestSplitMemory(t *testing.T) {
	const s = "a b c\nd e f g h\n\ni\nj k"
	want := []api.Line{line(1, "a", "b", "c"), line(2, "d", "e", "f", "g", "h"), line(4, "i"), line(5, "j", "k")}
	first, _, _ := lines.Split(s)
	second, _, _ := lines.Split(s)
	for i := range first {
		words := first[i].Words
		// Whoever appends writes behind the length.
		for j := range words[:cap(words)] {
			words[:cap(words)][j] = "spoilt"
		}
		for j := i + 1; j < len(first); j++ {
			if !slices.Equal(first[j].Words, want[j].Words) {
				t.Errorf("line %d is changed through line %d: %q", want[j].No, want[i].No, first[j].Words)
			}
		}
	}
	for i := range first[:cap(first)] {
		first[:cap(first)][i] = api.Line{}
	}
	if !same(second, want) {
		t.Errorf("one answer is changed through another: %v", second)
	}
	splits(t, s, want...)
}

// TestSplitRowsApart: R2, upwards and downwards, of many lines with one word each.
func TestSplitRowsApart(t *testing.T) {
	got, _, _ := lines.Split(strings.Repeat("a\n", 500))
	for i := len(got) - 1; i >= 0; i-- {
		words := got[i].Words
		words = append(words, "more")
		words[0] = "b"
		for j := range i {
			if !slices.Equal(got[j].Words, []string{"a"}) {
				t.Fatalf("line %d is changed through line %d: %q", j+1, i+1, got[j].Words)
			}
		}
	}
}

// TestJoinMemory: R2: Join changes nothing of what is handed in, within the lengths and behind them, and does not read what is behind.
func TestJoinMemory(t *testing.T) {
	words := []string{"a", "b", "hidden"}
	row := []api.Line{{No: 3, Words: words[:2]}, {No: 9, Words: words[:0]}, {No: 1, Words: []string{"hidden"}}}
	kept := slices.Clone(row)
	if got := lines.Join(row[:2]); got != "a b\n\n" {
		t.Errorf("%q", got)
	}
	if !slices.Equal(words, []string{"a", "b", "hidden"}) || !same(row, kept) {
		t.Errorf("changed: %q, %v", words, row)
	}
}

// TestJoinKeepsNothing: R2 and R6: what was joined hangs on nothing that is done to the lines later.
func TestJoinKeepsNothing(t *testing.T) {
	l := []api.Line{line(1, "a", "b"), line(2, "c")}
	text := lines.Join(l)
	l[0].Words[1], l[1] = "x", api.Line{}
	if text != "a b\nc\n" || lines.Join(l) != "a x\n\n" {
		t.Errorf("%q, %q", text, lines.Join(l))
	}
}

// TestSplitAgain: R6: an answer hangs on nothing that was asked ahead of it.
func TestSplitAgain(t *testing.T) {
	for range 3 {
		splits(t, "a\nb c", line(1, "a"), line(2, "b", "c"))
		refuses(t, "a\nb\t", 2)
		splits(t, "")
		refuses(t, strings.Repeat("a", api.MaxText+1), 0)
	}
}
