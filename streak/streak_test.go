package streak_test

import (
	"math"
	"math/big"
	"sync"
	"testing"

	"triage/api"
	"triage/config"
	"triage/spoilt"
	"triage/streak"
)

const (
	maxTime  = 1 << 62
	least    = math.MinInt
	greatest = math.MaxInt
)

// errorsByItself is what the chapter of configurations says Errors is by itself.
const errorsByItself = 5

// someCounts are counts of any size, those of all Errors and those around them among them.
func someCounts() []int {
	l := []int{1000, 1000000, 1 << 31, 1 << 32, 1<<32 + 1, maxTime - 2, maxTime - 1, maxTime, maxTime + 1, greatest - 1, greatest, -1, -2, -5, -100, -1 << 31, -1 << 32, -maxTime, least, least + 1, least + 5}
	for n := range 105 {
		l = append(l, n)
	}
	return l
}

// changed is the configuration by itself with something else in it.
func changed(change func(*api.Config)) api.Config {
	c := config.Default()
	change(&c)
	return c
}

// errors is the configuration by itself with that Errors.
func errors(n int) api.Config {
	return changed(func(c *api.Config) { c.Errors = n })
}

// refused are configurations that may not be, with other Errors than by itself, so that what they count as is seen.
func refused() []api.Config {
	var l []api.Config
	for _, n := range []int{0, 1, 3, 9} {
		l = append(l, spoilt.Configs(errors(n))...)
	}
	return l
}

// TestByItself: what these tests call Errors by itself is that.
func TestByItself(t *testing.T) {
	if n := config.Default().Errors; n != errorsByItself {
		t.Error(n)
	}
}

// notes asks what is behind one answer; what was handed in stays.
func notes(t *testing.T, c api.Config, n int, ok bool, want int, wantYes bool) {
	t.Helper()
	was := c
	got, yes := streak.Note(c, n, ok)
	if got != want || yes != wantYes {
		t.Errorf("Errors %d: Note(%d, %v) = %d, %v; want %d, %v", c.Errors, n, ok, got, yes, want, wantYes)
	}
	if c != was {
		t.Errorf("Note changed %+v", was)
	}
}

// TestNoteRows: P11.1: by rows.
func TestNoteRows(t *testing.T) {
	for _, x := range []struct {
		errors, n int
		ok        bool
		want      int
		yes       bool
	}{
		// Just below Errors, at it, beyond it.
		{4, 0, false, 1, false}, {4, 1, false, 2, false}, {4, 2, false, 3, false},
		{4, 3, false, 4, true}, {4, 4, false, 5, true}, {4, 5, false, 6, true}, {4, 99, false, 100, true},
		// Below 0: as 0.
		{4, -1, false, 1, false}, {4, -4, false, 1, false}, {4, least, false, 1, false}, {4, least + 1, false, 1, false},
		// Around MaxTime: it stays at that.
		{4, maxTime - 2, false, maxTime - 1, true}, {4, maxTime - 1, false, maxTime, true},
		{4, maxTime, false, maxTime, true}, {4, maxTime + 1, false, maxTime, true},
		{4, greatest - 1, false, maxTime, true}, {4, greatest, false, maxTime, true},
		// An answer that is ok: nothing is left, whatever it was.
		{4, 0, true, 0, false}, {4, 2, true, 0, false}, {4, 3, true, 0, false}, {4, 4, true, 0, false}, {4, 5, true, 0, false},
		{4, -1, true, 0, false}, {4, least, true, 0, false},
		{4, maxTime - 1, true, 0, false}, {4, maxTime, true, 0, false}, {4, maxTime + 1, true, 0, false}, {4, greatest, true, 0, false},
		// Errors 0: never.
		{0, 0, false, 1, false}, {0, 7, false, 8, false}, {0, -1, false, 1, false}, {0, least, false, 1, false},
		{0, maxTime - 1, false, maxTime, false}, {0, maxTime, false, maxTime, false}, {0, greatest, false, maxTime, false},
		{0, 0, true, 0, false}, {0, 7, true, 0, false}, {0, greatest, true, 0, false},
		// Errors 1: each failure.
		{1, 0, false, 1, true}, {1, 1, false, 2, true}, {1, -1, false, 1, true}, {1, least, false, 1, true},
		{1, maxTime, false, maxTime, true}, {1, greatest, false, maxTime, true},
		{1, 0, true, 0, false}, {1, 1, true, 0, false}, {1, least, true, 0, false},
		// The greatest that may be.
		{100, 0, false, 1, false}, {100, 98, false, 99, false}, {100, 99, false, 100, true}, {100, 100, false, 101, true},
		{100, -1, false, 1, false}, {100, least, false, 1, false}, {100, greatest, false, maxTime, true},
		{100, 99, true, 0, false}, {100, 100, true, 0, false},
	} {
		notes(t, errors(x.errors), x.n, x.ok, x.want, x.yes)
	}
}

// countByPages tells what a count counts as behind one more failure, worked out without a bound on numbers.
func countByPages(n int) int {
	sum := big.NewInt(int64(n))
	if sum.Sign() < 0 {
		sum.SetInt64(0)
	}
	sum.Add(sum, big.NewInt(1))
	top := new(big.Int).Lsh(big.NewInt(1), 62)
	if sum.Cmp(top) > 0 {
		sum = top
	}
	return int(sum.Int64())
}

// noteByPages is P11.1's first sentence told the other way round: by what is left of Errors behind the count.
func noteByPages(errors, n int, ok bool) (int, bool) {
	if ok {
		return 0, false
	}
	count := countByPages(n)
	if errors == 0 {
		return count, false
	}
	return count, errors-count <= 0
}

// TestNoteAll: P11.1: each Errors that may be, at counts of any size.
func TestNoteAll(t *testing.T) {
	for e := 0; e <= 100; e++ {
		for _, n := range someCounts() {
			want, yes := noteByPages(e, n, false)
			notes(t, errors(e), n, false, want, yes)
			notes(t, errors(e), n, true, 0, false)
		}
	}
}

// TestNoteRefused: P11.1: a configuration that may not be counts as that by itself.
func TestNoteRefused(t *testing.T) {
	for _, c := range refused() {
		for _, n := range someCounts() {
			want, yes := noteByPages(errorsByItself, n, false)
			notes(t, c, n, false, want, yes)
			notes(t, c, n, true, 0, false)
		}
		notes(t, c, 3, false, 4, false)
		notes(t, c, 4, false, 5, true)
	}
}

// TestFields: P11.1: nothing but Errors of a configuration that may be counts.
func TestFields(t *testing.T) {
	busy, _, e := config.Parse("interval 10\ntimeout 1\njitter 1000\nrise 10\nfall 1\npanic 0\nover 1000\nerrors 7\nsweep 10\nhosts 1\nrequests 1\nfactor 0\nfails 100\nbase 1\neject 0\none no\nslow 10000\ndrain 1\nhostlimit 1\npoollimit 1\npolicy ring\nzone a\nfallback yes")
	if e != api.OK {
		t.Fatal(e)
	}
	for _, n := range someCounts() {
		want, yes := noteByPages(7, n, false)
		notes(t, busy, n, false, want, yes)
		notes(t, busy, n, true, 0, false)
	}
	tells(t, busy, 0, "nnnnnnynnnnnnnn", 1, 1)
}

// TestManyAsk: R6: what one asks says nothing about what another is told.
func TestManyAsk(t *testing.T) {
	var all sync.WaitGroup
	for n := 1; n <= 8; n++ {
		all.Go(func() {
			c := errors(n)
			for range 200 {
				if got, yes := streak.Note(c, n-1, false); got != n || !yes {
					t.Errorf("by %d: %d, %v", n, got, yes)
				}
				if got, yes := streak.All(c, 0, make([]bool, 3*n)); got != 0 || yes != 3 {
					t.Errorf("by %d: %d, %d", n, got, yes)
				}
			}
		})
	}
	all.Wait()
}
