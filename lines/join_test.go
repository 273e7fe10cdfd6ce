package lines_test

import (
	"math/rand"
	"slices"
	"strings"
	"testing"

	"triage/api"
	"triage/lines"
)

// TestJoin: P5.1: of each line its words with a blank between, and a line feed; the number is not written.
func TestJoin(t *testing.T) {
	for _, x := range []struct {
		l    []api.Line
		want string
	}{
		{nil, ""},
		{[]api.Line{}, ""},
		{[]api.Line{line(1, "a")}, "a\n"},
		{[]api.Line{line(1, "a", "b")}, "a b\n"},
		{[]api.Line{line(1, "a", "b", "c"), line(2, "d")}, "a b c\nd\n"},
		{[]api.Line{line(1)}, "\n"},
		{[]api.Line{{No: 1, Words: []string{}}}, "\n"},
		{[]api.Line{line(1), line(2), line(3, "a"), line(4)}, "\n\na\n\n"},
		{[]api.Line{line(7, "a"), line(3, "b"), line(3, "c")}, "a\nb\nc\n"},
		{[]api.Line{line(0, "a"), line(-5, "b"), line(1<<62, "c")}, "a\nb\nc\n"},
		// What may not be in a text of Split's is written as it is.
		{[]api.Line{line(1, "")}, "\n"},
		{[]api.Line{line(1, "", "")}, " \n"},
		{[]api.Line{line(1, "a", "", "b")}, "a  b\n"},
		{[]api.Line{line(1, "a b", "#c"), line(2, "d\ne", "\x00\xff")}, "a b #c\nd\ne \x00\xff\n"},
	} {
		if got := lines.Join(x.l); got != x.want {
			t.Errorf("Join(%v): %q, want %q", x.l, got, x.want)
		}
	}
}

// TestJoinLong: P5.1 gives Join no bound.
func TestJoinLong(t *testing.T) {
	word := strings.Repeat("w", api.MaxText)
	row := slices.Repeat([]api.Line{line(1, word, word)}, 50)
	if got := lines.Join(row); got != strings.Repeat(word+" "+word+"\n", 50) {
		t.Errorf("%d bytes", len(got))
	}
}

// numbered writes lines of words with the numbers 1, 2 ..
func numbered(rows ...[]string) []api.Line {
	var l []api.Line
	for i, words := range rows {
		l = append(l, api.Line{No: i + 1, Words: words})
	}
	return l
}

// TestJoinSplit: P5.3: what is joined, of words without blanks and #, is split as it was.
func TestJoinSplit(t *testing.T) {
	for _, l := range [][]api.Line{
		nil,
		numbered([]string{"a"}),
		numbered([]string{"a", "b"}, []string{"c"}),
		numbered([]string{"!", "~"}, []string{"\"a\""}, []string{"-", "-"}),
		numbered([]string{strings.Repeat("x", api.MaxLine)}),
		numbered([]string{strings.Repeat("x", 100), strings.Repeat("y", 99)}),
		numbered(slices.Repeat([][]string{{"a"}}, api.MaxText/2)...),
	} {
		splits(t, lines.Join(l), l...)
	}
	// A line without words takes its place, though it is not told.
	splits(t, lines.Join([]api.Line{line(1, "a"), line(2), line(3, "b")}), line(1, "a"), line(3, "b"))
	// Beyond the bounds what is joined is a text as any other.
	refuses(t, lines.Join(numbered([]string{strings.Repeat("x", 100), strings.Repeat("y", 100)})), 1)
	refuses(t, lines.Join(numbered(slices.Repeat([][]string{{"a"}}, api.MaxText/2+1)...)), 0)
}

// TestJoinSplitDrawn: P5.3, of drawn lines of drawn words; and a text is, joined again, what its words are.
func TestJoinSplitDrawn(t *testing.T) {
	r := rand.New(rand.NewSource(53))
	for range 2000 {
		l := drawnLines(r)
		text := lines.Join(l)
		splits(t, text, l...)
		again, _, _ := lines.Split(text)
		if lines.Join(again) != text {
			t.Fatalf("%q: joined again %q", text, lines.Join(again))
		}
	}
}

// drawnLines makes at most 18 lines of at most 12 words of at most 15 bytes: within all bounds.
func drawnLines(r *rand.Rand) []api.Line {
	var rows [][]string
	for range r.Intn(19) {
		var words []string
		for range 1 + r.Intn(12) {
			words = append(words, drawnWord(r))
		}
		rows = append(rows, words)
	}
	return numbered(rows...)
}

func drawnWord(r *rand.Rand) string {
	b := make([]byte, 1+r.Intn(15))
	for i := range b {
		b[i] = byte(33 + r.Intn(94))
		if b[i] == '#' {
			b[i] = '$'
		}
	}
	return string(b)
}
