package streak_test

import (
	"math/rand"
	"slices"
	"strings"
	"testing"

	"triage/api"
	"triage/streak"
)

// row is a text of y and n as answers.
func row(text string) []bool {
	var l []bool
	for _, r := range text {
		l = append(l, r == 'y')
	}
	return l
}

// letters are answers as a text of y and n.
func letters(l []bool) string {
	var text strings.Builder
	for _, ok := range l {
		if ok {
			text.WriteByte('y')
		} else {
			text.WriteByte('n')
		}
	}
	return text.String()
}

// tells asks what is behind the answers; what was handed in stays.
func tells(t *testing.T, c api.Config, n int, text string, want, wantTimes int) {
	t.Helper()
	wasC, l := c, row(text)
	got, times := streak.All(c, n, l)
	if got != want || times != wantTimes {
		t.Errorf("Errors %d: All(%d, %s) = %d, %d; want %d, %d", c.Errors, n, text, got, times, want, wantTimes)
	}
	if c != wasC || letters(l) != text {
		t.Errorf("All changed %+v or %s", wasC, text)
	}
}

// TestAllRows: P11.1: by rows, with Errors 3.
func TestAllRows(t *testing.T) {
	c := errors(3)
	for _, x := range []struct {
		n           int
		text        string
		want, times int
	}{
		// All ok.
		{0, "y", 0, 0}, {2, "y", 0, 0}, {3, "yyy", 0, 0}, {7, "yyyy", 0, 0}, {-4, "yy", 0, 0}, {maxTime, "y", 0, 0}, {greatest, "yy", 0, 0}, {least, "y", 0, 0},
		// All failures.
		{0, "n", 1, 0}, {0, "nn", 2, 0}, {0, "nnn", 0, 1}, {0, "nnnn", 1, 1}, {0, "nnnnn", 2, 1}, {0, "nnnnnn", 0, 2}, {0, "nnnnnnn", 1, 2},
		// In turn.
		{0, "nynynyny", 0, 0}, {0, "ynynynyn", 1, 0}, {2, "nynynyny", 0, 1}, {2, "ynynynyn", 1, 0}, {0, "nnynnynny", 0, 0}, {0, "ynnynnynn", 2, 0},
		// A yes in the middle, at the end, at the beginning.
		{0, "nnny", 0, 1}, {0, "nnnn", 1, 1}, {0, "ynnnnn", 2, 1}, {0, "nnynnn", 0, 1}, {0, "nynnnnn", 2, 1}, {2, "n", 0, 1}, {2, "nn", 1, 1}, {2, "nnnn", 0, 2}, {1, "nn", 0, 1}, {1, "nnnn", 2, 1}, {1, "nynnn", 0, 1},
		// From Errors on and beyond it: the first failure says yes.
		{3, "n", 0, 1}, {4, "n", 0, 1}, {9, "n", 0, 1}, {3, "nn", 1, 1}, {3, "nnnn", 0, 2}, {9, "nnnnn", 1, 2}, {3, "yn", 1, 0}, {9, "ynn", 2, 0}, {3, "ynnn", 0, 1},
		// Around MaxTime.
		{maxTime - 1, "n", 0, 1}, {maxTime, "n", 0, 1}, {maxTime + 1, "n", 0, 1}, {greatest, "n", 0, 1}, {greatest, "nn", 1, 1}, {maxTime - 1, "yn", 1, 0}, {greatest, "yn", 1, 0},
		// Below 0: as 0.
		{-1, "n", 1, 0}, {-1, "nn", 2, 0}, {-1, "nnn", 0, 1}, {-3, "nnnn", 1, 1}, {least, "nnn", 0, 1}, {least, "nn", 2, 0}, {least + 1, "n", 1, 0},
	} {
		tells(t, c, x.n, x.text, x.want, x.times)
	}
}

// TestAllOthers: P11.1: by rows, with the least and the greatest Errors, and none.
func TestAllOthers(t *testing.T) {
	for _, x := range []struct {
		errors, n   int
		text        string
		want, times int
	}{
		{0, 0, "nnnnnnnn", 8, 0}, {0, 5, "n", 6, 0}, {0, 5, "nyn", 1, 0}, {0, -5, "nn", 2, 0}, {0, least, "n", 1, 0},
		{0, maxTime - 2, "n", maxTime - 1, 0}, {0, maxTime - 2, "nnnn", maxTime, 0}, {0, maxTime, "nn", maxTime, 0}, {0, maxTime + 1, "n", maxTime, 0}, {0, greatest, "nn", maxTime, 0}, {0, greatest, "nny", 0, 0}, {0, greatest, "nyn", 1, 0},
		{1, 0, "n", 0, 1}, {1, 0, "nnn", 0, 3}, {1, 0, "ynyn", 0, 2}, {1, 0, "nyyn", 0, 2}, {1, 7, "nn", 0, 2}, {1, 7, "y", 0, 0}, {1, least, "nn", 0, 2}, {1, greatest, "nn", 0, 2},
		{100, 0, strings.Repeat("n", 99), 99, 0}, {100, 0, strings.Repeat("n", 100), 0, 1}, {100, 0, strings.Repeat("n", 101), 1, 1}, {100, 0, strings.Repeat("n", 1000), 0, 10},
		{100, 99, "n", 0, 1}, {100, 98, "n", 99, 0}, {100, 99, "y", 0, 0}, {100, 100, "n", 0, 1}, {100, 50, strings.Repeat("n", 50), 0, 1}, {100, 50, strings.Repeat("n", 49) + "y" + strings.Repeat("n", 99), 99, 0},
		{100, -1, strings.Repeat("n", 100), 0, 1},
	} {
		tells(t, errors(x.errors), x.n, x.text, x.want, x.times)
	}
}

// asCount tells the count that n counts as.
func asCount(n int) int {
	if n < 0 {
		return 0
	}
	if n > maxTime {
		return maxTime
	}
	return n
}

// TestAllNone: P11.1: of no answers: the count, as it counts, and no yes, at Errors and beyond it too.
func TestAllNone(t *testing.T) {
	for _, n := range someCounts() {
		for _, e := range []int{0, 1, 2, 5, 99, 100} {
			tells(t, errors(e), n, "", asCount(n), 0)
			if got, times := streak.All(errors(e), n, []bool{}); got != asCount(n) || times != 0 {
				t.Errorf("of an empty row from %d: %d, %d", n, got, times)
			}
		}
		tells(t, api.Config{}, n, "", asCount(n), 0)
	}
}

// allByPages works out the last count and the yeses by how long the pieces of failures are: from a piece Errors are cut again and again.
func allByPages(errors, n int, text string) (int, int) {
	n = asCount(n)
	times, last := 0, n
	for i, piece := range strings.Split(text, "y") {
		last = len(piece)
		if i == 0 {
			if errors > 0 && n >= errors && last > 0 {
				times++
				last -= 1
			} else if maxTime-n < last {
				last = maxTime
			} else {
				last += n
			}
		}
		if errors > 0 && (i > 0 || len(piece) > 0) {
			times += last / errors
			last %= errors
		}
	}
	return last, times
}

// words tells all texts of y and n that are so long.
func words(size int) []string {
	l := []string{""}
	for range size {
		var next []string
		for _, w := range l {
			next = append(next, w+"n", w+"y")
		}
		l = next
	}
	return l
}

// TestAllShort: P11.1: all answers of up to seven, from counts of any size, with few Errors.
func TestAllShort(t *testing.T) {
	counts := []int{0, 1, 2, 3, 4, 5, 6, 7, 8, -1, -2, least, least + 1, maxTime - 6, maxTime - 2, maxTime - 1, maxTime, maxTime + 1, greatest}
	for size := range 8 {
		for _, text := range words(size) {
			for _, n := range counts {
				for e := range 6 {
					want, times := allByPages(e, n, text)
					tells(t, errors(e), n, text, want, times)
				}
			}
		}
	}
}

// drawn is a row of answers, so many out of ten of which fail.
func drawn(r *rand.Rand, size, often int) []bool {
	l := make([]bool, size)
	for i := range l {
		l[i] = r.Intn(10) >= often
	}
	return l
}

// TestAllDrawn: P11.1: long rows, with each Errors.
func TestAllDrawn(t *testing.T) {
	r := rand.New(rand.NewSource(111))
	sum := 0
	for e := 0; e <= 100; e++ {
		for range 30 {
			n := r.Intn(2*e + 2)
			text := letters(drawn(r, r.Intn(400), 5+r.Intn(6)))
			want, times := allByPages(e, n, text)
			tells(t, errors(e), n, text, want, times)
			sum += times
		}
	}
	if sum < 5000 {
		t.Errorf("only %d yeses: the draw asks too little", sum)
	}
}

// TestAllNotes: P11.1: All is Note, one after the other, from 0 on behind each yes.
func TestAllNotes(t *testing.T) {
	r := rand.New(rand.NewSource(112))
	configs := append(refused(), errors(0), errors(1), errors(2), errors(7), errors(100))
	counts := someCounts()
	for _, c := range configs {
		for range 40 {
			from := counts[r.Intn(len(counts))]
			l := drawn(r, r.Intn(60), 5+r.Intn(6))
			n, times := asCount(from), 0
			for _, ok := range l {
				var yes bool
				if n, yes = streak.Note(c, n, ok); yes {
					n = 0
					times++
				}
			}
			tells(t, c, from, letters(l), n, times)
		}
	}
}

// TestAllRefused: P11.1: a configuration that may not be counts as that by itself.
func TestAllRefused(t *testing.T) {
	for _, c := range refused() {
		tells(t, c, 0, "nnnn", 4, 0)
		tells(t, c, 0, "nnnnn", 0, 1)
		tells(t, c, 0, "nnnnnnnnnnnn", 2, 2)
		tells(t, c, 4, "n", 0, 1)
		tells(t, c, 5, "ny", 0, 1)
		tells(t, c, 3, "ynnnn", 4, 0)
		tells(t, c, greatest, "", maxTime, 0)
		tells(t, c, least, "n", 1, 0)
	}
}

// TestAllBehind: R2: what lies behind the length of a row is neither read nor written.
func TestAllBehind(t *testing.T) {
	for _, behind := range []string{"nnnnnn", "yyyyyy", "nynyny"} {
		whole := row("nny" + behind)
		was := slices.Clone(whole)
		for size := range 4 {
			got, times := streak.All(errors(2), 0, whole[:size])
			want, wantTimes := allByPages(2, 0, "nny"[:size])
			if got != want || times != wantTimes {
				t.Errorf("of the first %d: %d, %d", size, got, times)
			}
			if !slices.Equal(whole, was) {
				t.Errorf("All changed what it was handed: %v", whole)
			}
		}
	}
}
