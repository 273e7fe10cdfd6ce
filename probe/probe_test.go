package probe_test

import (
	"math"
	"sync"
	"testing"

	"triage/api"
	"triage/config"
	"triage/probe"
	"triage/spoilt"
)

const (
	maxTime  = 1 << 62
	least    = math.MinInt
	greatest = math.MaxInt
)

var bools = []bool{false, true}

// forces are what Forced may hold, and what it may not.
var forces = []int{0, 1, 2, 3, 4, 7, -1, -2, least, greatest, 1 << 32, 1<<32 + 1, 1<<32 + 2, maxTime}

// someNumbers are numbers of any size.
var someNumbers = []int{0, 1, 2, 3, 9, 10, 64, 1000000, 1 << 31, 1 << 32, maxTime - 1, maxTime, maxTime + 1, greatest - 1, greatest, -1, -2, -10, -1 << 31, -maxTime, least, least + 1}

// changed is the configuration by itself with something else in it.
func changed(change func(*api.Config)) api.Config {
	c := config.Default()
	change(&c)
	return c
}

// counts is the configuration by itself with that Rise and Fall.
func counts(rise, fall int) api.Config {
	return changed(func(c *api.Config) { c.Rise, c.Fall = rise, fall })
}

// refused are configurations that may not be, with other Rise, Fall and Interval than by itself, so that what they count as is seen.
func refused() []api.Config {
	c := counts(5, 6)
	c.Interval, c.Jitter = 700, 8
	return append(spoilt.Configs(c), api.Config{Rise: 5, Fall: 6, Interval: 700, Jitter: 8})
}

// TestNew: P10.1: Up, and nothing else; each time anew.
func TestNew(t *testing.T) {
	for range 3 {
		p := probe.New()
		if p != (api.Probing{Up: true}) {
			t.Errorf("New() = %+v", p)
		}
		if !probe.Well(p) {
			t.Errorf("Well(New()) = false")
		}
		p.Up, p.Run, p.Forced, p.Wait = false, 4, 2, 9
	}
}

// TestWell: P10.1: Forced and Up alone say so.
func TestWell(t *testing.T) {
	for _, x := range []struct {
		forced int
		up     bool
		want   bool
	}{
		{0, false, false}, {0, true, true},
		{1, false, false}, {1, true, false},
		{2, false, true}, {2, true, true},
		{3, false, false}, {3, true, false},
		{-1, false, false}, {-1, true, false},
		{-2, false, false}, {-2, true, false},
		{4, false, false}, {4, true, false},
		{7, false, false}, {7, true, false},
		{least, false, false}, {least, true, false},
		{greatest, false, false}, {greatest, true, false},
		{1 << 32, false, false}, {1 << 32, true, false},
		{1<<32 + 2, false, false}, {1<<32 + 2, true, false},
	} {
		for _, n := range someNumbers {
			for _, p := range []api.Probing{
				{Up: x.up, Forced: x.forced},
				{Up: x.up, Forced: x.forced, Run: n},
				{Up: x.up, Forced: x.forced, Wait: n},
			} {
				if got := probe.Well(p); got != x.want {
					t.Errorf("Well(%+v) = %v", p, got)
				}
			}
		}
	}
}

// TestBegin: P10.1: Wait is id, whatever id and whatever it was; all else is as it was.
func TestBegin(t *testing.T) {
	for _, id := range someNumbers {
		for _, up := range bools {
			for _, forced := range forces {
				for _, n := range someNumbers {
					p := api.Probing{Up: up, Run: n, Forced: forced, Wait: n}
					was := p
					if got := probe.Begin(p, id); got != (api.Probing{Up: up, Run: n, Forced: forced, Wait: id}) {
						t.Errorf("Begin(%+v, %d) = %+v", p, id, got)
					}
					if p != was {
						t.Errorf("Begin changed %+v to %+v", was, p)
					}
				}
			}
		}
	}
}

// TestBeginAgain: whoever waits for one probe and begins another waits for that one alone.
func TestBeginAgain(t *testing.T) {
	p := probe.Begin(probe.Begin(probe.New(), 5), 6)
	if p != (api.Probing{Up: true, Wait: 6}) {
		t.Errorf("%+v", p)
	}
	if p = probe.Begin(p, 0); p != probe.New() {
		t.Errorf("%+v", p)
	}
}

// TestManyAsk: R6: what one asks says nothing about what another is told.
func TestManyAsk(t *testing.T) {
	var all sync.WaitGroup
	for n := range 8 {
		all.Go(func() {
			c := counts(1+n, 1+n)
			for range 200 {
				if p, moves := answers(c, probe.New(), false, n); p != (api.Probing{Up: true, Run: n}) || len(moves) != 0 {
					t.Errorf("by %d: %+v, %v", n, p, moves)
				}
				if p, moves := answers(c, probe.New(), false, n+1); p != (api.Probing{}) || len(moves) != 1 {
					t.Errorf("by %d: %+v, %v", n, p, moves)
				}
				if w := probe.Wait(waiting(500+n, 0), n, 1); w != 500+n {
					t.Errorf("by %d: Wait %d", n, w)
				}
			}
		})
	}
	all.Wait()
}
