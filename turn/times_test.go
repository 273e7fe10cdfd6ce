package turn_test

import (
	"math/big"
	"math/rand"
	"slices"
	"testing"

	"triage/api"
	"triage/turn"
)

const end = api.MaxTime

// TestTimesRow: P4.1: from, from and step, .. as long as they are to at most.
func TestTimesRow(t *testing.T) {
	for _, x := range []struct {
		from, step, to int
		want           []int
	}{
		{0, 1, 0, []int{0}},
		{0, 1, 3, []int{0, 1, 2, 3}},
		{0, 2, 5, []int{0, 2, 4}},
		{0, 2, 6, []int{0, 2, 4, 6}},
		{7, 10, 36, []int{7, 17, 27}},
		{7, 10, 37, []int{7, 17, 27, 37}},
		{7, 10, 38, []int{7, 17, 27, 37}},
		{7, 10, 16, []int{7}},
		{7, 10, 17, []int{7, 17}},
		{7, 10, 7, []int{7}},
		{7, 10, 8, []int{7}},
		{5, 5, 9, []int{5}},
		{5, 5, 10, []int{5, 10}},
	} {
		if got := slices.Collect(turn.Times(x.from, x.step, x.to)); !slices.Equal(got, x.want) {
			t.Errorf("Times(%d, %d, %d): %v, want %v", x.from, x.step, x.to, got, x.want)
		}
	}
}

// TestTimesNone: P4.1: step below 1, from below 0, to above MaxTime: none; nor if the first one is above to.
func TestTimesNone(t *testing.T) {
	for _, x := range []struct{ from, step, to int }{
		{0, 0, 10}, {0, -1, 10}, {5, -5, 10}, {0, least, 10}, {5, 0, 5}, {10, -1, 0}, {10, -1, 10},
		{-1, 1, 10}, {-1, 1, -1}, {-5, 5, 10}, {least, 1, 10}, {least, greatest, 10}, {least, 1, least},
		{0, 1, end + 1}, {end, 1, end + 1}, {end + 1, 1, end + 1}, {0, 1, greatest}, {greatest, 1, greatest}, {5, end, greatest},
		{1, 1, 0}, {6, 1, 5}, {0, 1, -1}, {0, 1, least}, {end, 1, end - 1}, {end + 1, 1, end}, {greatest, 1, 0}, {greatest, greatest, end}, {greatest, 1, least},
		{-1, 0, end + 1}, {least, least, greatest}, {least, least, least},
	} {
		for at := range turn.Times(x.from, x.step, x.to) {
			t.Errorf("Times(%d, %d, %d) has %d", x.from, x.step, x.to, at)
			break
		}
	}
}

// TestTimesGreat: P4.1, R1: up to MaxTime itself, by steps of any size, without a sum that goes round.
func TestTimesGreat(t *testing.T) {
	for _, x := range []struct {
		from, step, to int
		want           []int
	}{
		{end, 1, end, []int{end}},
		{end, greatest, end, []int{end}},
		{end - 1, 1, end, []int{end - 1, end}},
		{end - 2, 1, end, []int{end - 2, end - 1, end}},
		{end - 5, 2, end, []int{end - 5, end - 3, end - 1}},
		{end - 1, 1, end - 1, []int{end - 1}},
		{0, end, end, []int{0, end}},
		{0, end, end - 1, []int{0}},
		{1, end, end, []int{1}},
		{0, end + 1, end, []int{0}},
		{0, end / 2, end, []int{0, end / 2, end}},
		{1, end / 2, end, []int{1, end/2 + 1}},
		{0, greatest, end, []int{0}},
		{end - 1, greatest, end, []int{end - 1}},
		{1, greatest, end, []int{1}},
		{0, greatest, 0, []int{0}},
		{0, end - 1, end, []int{0, end - 1}},
	} {
		if got := firstOf(9, turn.Times(x.from, x.step, x.to)); !slices.Equal(got, x.want) {
			t.Errorf("Times(%d, %d, %d): %v, want %v", x.from, x.step, x.to, got, x.want)
		}
	}
}

// counted tells the first most times by P4.1's sentence, in numbers without a bound.
func counted(from, step, to, most int) []int {
	if step < 1 || from < 0 || to > end {
		return nil
	}
	var l []int
	at, by, last := big.NewInt(int64(from)), big.NewInt(int64(step)), big.NewInt(int64(to))
	for len(l) < most && at.Cmp(last) <= 0 {
		l = append(l, int(at.Int64()))
		at.Add(at, by)
	}
	return l
}

// TestTimesAll: P4.1 for all small numbers, wrong ones too.
func TestTimesAll(t *testing.T) {
	for from := -3; from <= 12; from++ {
		for step := -2; step <= 8; step++ {
			for to := -3; to <= 25; to++ {
				got := slices.Collect(turn.Times(from, step, to))
				if !slices.Equal(got, counted(from, step, to, 99)) {
					t.Errorf("Times(%d, %d, %d): %v", from, step, to, got)
				}
			}
		}
	}
}

// TestTimesAny: P4.1 for numbers of every size, about the edges most of all.
func TestTimesAny(t *testing.T) {
	r := rand.New(rand.NewSource(444))
	edges := []int{least, -1, 0, 1, end / 2, end, greatest}
	number := func() int {
		near := edges[r.Intn(len(edges))]
		if r.Intn(3) == 0 {
			near = int(r.Uint64() >> r.Intn(64))
		}
		by := r.Intn(9) - 4
		if (by < 0 && near < least-by) || (by > 0 && near > greatest-by) {
			by = -by
		}
		return near + by
	}
	for range 40000 {
		from, step, to := number(), number(), number()
		got := firstOf(20, turn.Times(from, step, to))
		if !slices.Equal(got, counted(from, step, to, 20)) {
			t.Errorf("Times(%d, %d, %d): %v", from, step, to, got)
		}
	}
}
