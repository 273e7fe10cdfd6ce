package probe_test

import (
	"math/rand"
	"testing"

	"triage/api"
	"triage/config"
	"triage/probe"
)

// endsAs asks what is behind an answer, and the move; what was handed in stays.
func endsAs(t *testing.T, c api.Config, p api.Probing, ok bool, want api.Probing, wantMove int) {
	t.Helper()
	oldC, oldP := c, p
	got, move := probe.End(c, p, ok)
	if got != want || move != wantMove {
		t.Errorf("Rise %d, Fall %d: End(%+v, %v) = %+v, %d; want %+v, %d", c.Rise, c.Fall, p, ok, got, move, want, wantMove)
	}
	if c != oldC || p != oldP {
		t.Errorf("End changed %+v or %+v", oldC, oldP)
	}
}

// TestEndRows: P10.2: by rows, with Rise 4 and Fall 6.
func TestEndRows(t *testing.T) {
	c := counts(4, 6)
	for _, x := range []struct {
		p    api.Probing
		ok   bool
		want api.Probing
		move int
	}{
		// The answer is as Up is.
		{api.Probing{Up: true}, true, api.Probing{Up: true}, 0},
		{api.Probing{Up: true, Run: 5}, true, api.Probing{Up: true}, 0},
		{api.Probing{Up: true, Run: maxTime}, true, api.Probing{Up: true}, 0},
		{api.Probing{Up: true, Run: -3}, true, api.Probing{Up: true}, 0},
		{api.Probing{Run: 3}, false, api.Probing{}, 0},
		{api.Probing{Run: greatest}, false, api.Probing{}, 0},
		{api.Probing{Run: least}, false, api.Probing{}, 0},
		// Up, and a failure: up to Fall, at it, beyond it.
		{api.Probing{Up: true}, false, api.Probing{Up: true, Run: 1}, 0},
		{api.Probing{Up: true, Run: 3}, false, api.Probing{Up: true, Run: 4}, 0},
		{api.Probing{Up: true, Run: 4}, false, api.Probing{Up: true, Run: 5}, 0},
		{api.Probing{Up: true, Run: 5}, false, api.Probing{}, api.MDown},
		{api.Probing{Up: true, Run: 6}, false, api.Probing{}, api.MDown},
		{api.Probing{Up: true, Run: 7}, false, api.Probing{}, api.MDown},
		{api.Probing{Up: true, Run: maxTime - 1}, false, api.Probing{}, api.MDown},
		{api.Probing{Up: true, Run: maxTime}, false, api.Probing{}, api.MDown},
		{api.Probing{Up: true, Run: maxTime + 1}, false, api.Probing{}, api.MDown},
		{api.Probing{Up: true, Run: greatest}, false, api.Probing{}, api.MDown},
		{api.Probing{Up: true, Run: -1}, false, api.Probing{Up: true, Run: 1}, 0},
		{api.Probing{Up: true, Run: least}, false, api.Probing{Up: true, Run: 1}, 0},
		// Not Up, and an answer: up to Rise, at it, beyond it.
		{api.Probing{}, true, api.Probing{Run: 1}, 0},
		{api.Probing{Run: 2}, true, api.Probing{Run: 3}, 0},
		{api.Probing{Run: 3}, true, api.Probing{Up: true}, api.MUp},
		{api.Probing{Run: 4}, true, api.Probing{Up: true}, api.MUp},
		{api.Probing{Run: 5}, true, api.Probing{Up: true}, api.MUp},
		{api.Probing{Run: maxTime - 1}, true, api.Probing{Up: true}, api.MUp},
		{api.Probing{Run: maxTime}, true, api.Probing{Up: true}, api.MUp},
		{api.Probing{Run: maxTime + 1}, true, api.Probing{Up: true}, api.MUp},
		{api.Probing{Run: greatest}, true, api.Probing{Up: true}, api.MUp},
		{api.Probing{Run: -1}, true, api.Probing{Run: 1}, 0},
		{api.Probing{Run: least}, true, api.Probing{Run: 1}, 0},
		// Forced: Up turns as ever, but nothing is told, for Well stays.
		{api.Probing{Up: true, Run: 5, Forced: 1}, false, api.Probing{Forced: 1}, 0},
		{api.Probing{Up: true, Run: 5, Forced: 2}, false, api.Probing{Forced: 2}, 0},
		{api.Probing{Up: true, Run: 4, Forced: 2}, false, api.Probing{Up: true, Run: 5, Forced: 2}, 0},
		{api.Probing{Run: 3, Forced: 1}, true, api.Probing{Up: true, Forced: 1}, 0},
		{api.Probing{Run: 3, Forced: 2}, true, api.Probing{Up: true, Forced: 2}, 0},
		{api.Probing{Run: 3, Forced: -1}, true, api.Probing{Up: true, Forced: -1}, 0},
		{api.Probing{Up: true, Run: 5, Forced: 3}, false, api.Probing{Forced: 3}, 0},
		// Wait is nought, whatever it was.
		{api.Probing{Up: true, Run: 5, Wait: 8}, false, api.Probing{}, api.MDown},
		{api.Probing{Up: true, Run: 1, Wait: 8}, false, api.Probing{Up: true, Run: 2}, 0},
		{api.Probing{Up: true, Run: 1, Wait: -8}, true, api.Probing{Up: true}, 0},
		{api.Probing{Run: 3, Wait: greatest}, true, api.Probing{Up: true}, api.MUp},
	} {
		endsAs(t, c, x.p, x.ok, x.want, x.move)
	}
}

// turnsAt tells how many answers against what it is make it the other.
func turnsAt(up bool, rise, fall int) int {
	if up {
		return fall
	}
	return rise
}

// endByPages is P10.2's sentence told the other way round: by how many answers it lacks.
func endByPages(rise, fall int, p api.Probing, ok bool) (api.Probing, int) {
	if ok == p.Up {
		return api.Probing{Up: p.Up, Forced: p.Forced}, 0
	}
	run := p.Run
	if run < 0 {
		run = 0
	}
	if lacks := turnsAt(p.Up, rise, fall) - 1; run < lacks {
		return api.Probing{Up: p.Up, Run: run + 1, Forced: p.Forced}, 0
	}
	turned := api.Probing{Up: ok, Forced: p.Forced}
	switch {
	case p.Forced != 0:
		return turned, 0
	case ok:
		return turned, api.MUp
	}
	return turned, api.MDown
}

// TestEndAll: P10.2: each Rise with each Fall, at Runs around both and at the ends of the numbers, up and not, forced to all.
func TestEndAll(t *testing.T) {
	runs := append([]int{}, someNumbers...)
	for n := -2; n <= 13; n++ {
		runs = append(runs, n)
	}
	for rise := 1; rise <= 10; rise++ {
		for fall := 1; fall <= 10; fall++ {
			c := counts(rise, fall)
			for i, run := range runs {
				for _, forced := range forces {
					for _, up := range bools {
						for _, ok := range bools {
							p := api.Probing{Up: up, Run: run, Forced: forced, Wait: someNumbers[i%len(someNumbers)]}
							want, move := endByPages(rise, fall, p, ok)
							endsAs(t, c, p, ok, want, move)
						}
					}
				}
			}
		}
	}
}

// TestEndWait: P10.2: Wait is nought behind End, and says nothing about all else.
func TestEndWait(t *testing.T) {
	for _, c := range append(refused(), counts(1, 1), counts(2, 3), counts(10, 10)) {
		for _, up := range bools {
			for _, ok := range bools {
				for _, forced := range forces {
					for run := range 4 {
						want, wantMove := probe.End(c, api.Probing{Up: up, Run: run, Forced: forced}, ok)
						if want.Wait != 0 {
							t.Errorf("behind End Wait is %d", want.Wait)
						}
						for _, n := range someNumbers {
							endsAs(t, c, api.Probing{Up: up, Run: run, Forced: forced, Wait: n}, ok, want, wantMove)
						}
					}
				}
			}
		}
	}
}

// TestEndFields: only Rise and Fall of a configuration that may be count: Fall of one that is Up, Rise of one that is not.
func TestEndFields(t *testing.T) {
	busy, _, e := config.Parse("interval 10\ntimeout 1\njitter 1000\npanic 0\nover 1000\nerrors 1\nhosts 1\nfactor 0\npolicy ring\nzone a\nfallback yes\none no\nrise 4\nfall 6")
	if e != api.OK {
		t.Fatal(e)
	}
	r := rand.New(rand.NewSource(102))
	for range 20000 {
		p := api.Probing{Up: r.Intn(2) == 0, Run: r.Intn(12) - 2, Forced: r.Intn(4), Wait: r.Intn(3)}
		ok := r.Intn(2) == 0
		want, move := endByPages(4, 6, p, ok)
		endsAs(t, busy, p, ok, want, move)
		endsAs(t, counts(4, 6), p, ok, want, move)
	}
}

// TestEndRefused: a configuration that may not be counts as that by itself: Rise 2, Fall 3.
func TestEndRefused(t *testing.T) {
	for _, c := range refused() {
		for run := -1; run <= 12; run++ {
			for _, up := range bools {
				for _, ok := range bools {
					for _, forced := range []int{0, 1, 2, 3} {
						p := api.Probing{Up: up, Run: run, Forced: forced}
						want, move := endByPages(2, 3, p, ok)
						endsAs(t, c, p, ok, want, move)
					}
				}
			}
		}
		endsAs(t, c, api.Probing{Up: true, Run: 1}, false, api.Probing{Up: true, Run: 2}, 0)
		endsAs(t, c, api.Probing{Up: true, Run: 2}, false, api.Probing{}, api.MDown)
		endsAs(t, c, api.Probing{}, true, api.Probing{Run: 1}, 0)
		endsAs(t, c, api.Probing{Run: 1}, true, api.Probing{Up: true}, api.MUp)
	}
}

// TestEndMove: P10.2: a move is told just where Well is another behind, and it is the one that Well says.
func TestEndMove(t *testing.T) {
	r := rand.New(rand.NewSource(103))
	met := map[int]int{}
	for range 100000 {
		c := counts(1+r.Intn(10), 1+r.Intn(10))
		p := api.Probing{Up: r.Intn(2) == 0, Run: r.Intn(14) - 2, Forced: r.Intn(5) - 1, Wait: r.Intn(5)}
		got, move := probe.End(c, p, r.Intn(2) == 0)
		was, is := probe.Well(p), probe.Well(got)
		want := 0
		if is && !was {
			want = api.MUp
		}
		if was && !is {
			want = api.MDown
		}
		if move != want {
			t.Errorf("from %+v to %+v: %d", p, got, move)
		}
		met[move]++
	}
	if len(met) != 3 || met[api.MUp] < 1000 || met[api.MDown] < 1000 {
		t.Error("the draw asks too little:", met)
	}
}
