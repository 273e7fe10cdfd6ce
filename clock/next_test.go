package clock_test

import (
	"testing"

	"triage/api"
	"triage/clock"
)

func next(t *testing.T, c *clock.Clock, to int, want api.Timer, is bool) {
	t.Helper()
	if got, ok := c.Next(to); got != want || ok != is {
		t.Errorf("Next(%d) = %v, %v; want %v, %v", to, got, ok, want, is)
	}
}

func goTo(t *testing.T, c *clock.Clock, to int, want bool) {
	t.Helper()
	if got := c.Go(to); got != want {
		t.Errorf("Go(%d) = %v at %d", to, got, c.Now())
	}
}

// TestExample: the chapter's own.
func TestExample(t *testing.T) {
	c := clockOf(t, 0, timers(5, 2, 1, 5, 1, 9))
	next(t, c, 9, timer(5, 1, 9), true)
	holds(t, c, 5, timers(5, 2, 1))
}

// TestNextNone: P9.2: without a timer there is none, and the time stays, wherever one asks.
func TestNextNone(t *testing.T) {
	for _, now := range []int{0, 10, maxTime} {
		c := clock.New(now)
		for _, to := range []int{least, -1, 0, now - 1, now, now + 1, maxTime, maxTime + 1, greatest} {
			next(t, c, to, api.Timer{}, false)
			holds(t, c, now, nil)
		}
	}
}

// TestNextTimes: P9.2: before the first timer none, just at it and beyond it that one; the time is its At and not to.
func TestNextTimes(t *testing.T) {
	was := timers(20, 1, 1, 30, 2, 2)
	for _, x := range []struct {
		to int
		is bool
	}{
		{least, false}, {-1, false}, {0, false}, {9, false}, {10, false}, {11, false}, {19, false},
		{20, true}, {21, true}, {29, true}, {30, true}, {31, true}, {maxTime, true}, {maxTime + 1, true}, {greatest, true},
	} {
		c := clockOf(t, 10, was)
		if !x.is {
			next(t, c, x.to, api.Timer{}, false)
			holds(t, c, 10, was)
			continue
		}
		next(t, c, x.to, was[0], true)
		holds(t, c, 20, was[1:])
		askAt(t, c, 1, 1, 0, false)
	}
}

// TestNextAtEnds: P9.2: a timer at now, at 0, at MaxTime.
func TestNextAtEnds(t *testing.T) {
	for _, now := range []int{0, 10, maxTime} {
		c := clockOf(t, now, timers(now, 3, 3))
		next(t, c, now-1, api.Timer{}, false)
		holds(t, c, now, timers(now, 3, 3))
		next(t, c, now, timer(now, 3, 3), true)
		holds(t, c, now, nil)
		next(t, c, greatest, api.Timer{}, false)
		holds(t, c, now, nil)
	}
	c := clockOf(t, 0, timers(maxTime, 1, 1))
	next(t, c, maxTime-1, api.Timer{}, false)
	next(t, c, greatest, timer(maxTime, 1, 1), true)
	holds(t, c, maxTime, nil)
}

// TestNextOneTime: P9.2: of several at one time, by Kind and then by Id, one with each call.
func TestNextOneTime(t *testing.T) {
	want := timers(
		7, api.TLimit, 3, 7, api.TLimit, 8, 7, api.TProbe, 1, 7, api.TProbe, 2,
		7, api.TSweep, 0, 7, api.TBack, 9, 7, api.TGone, 4)
	for _, l := range arrangements(want) {
		c := clockOf(t, 5, l)
		next(t, c, 6, api.Timer{}, false)
		for i, x := range want {
			next(t, c, 7, x, true)
			holds(t, c, 7, want[i+1:])
		}
		next(t, c, 7, api.Timer{}, false)
		holds(t, c, 7, nil)
	}
}

// TestNextMoved: P9.2: the first one is the one that stands first now: of what was put anew, or cut, nothing comes.
func TestNextMoved(t *testing.T) {
	c := clockOf(t, 0, timers(5, 1, 1, 6, 1, 2, 7, 1, 3))
	set(t, c, timer(8, 1, 1), true)
	next(t, c, 5, api.Timer{}, false)
	cut(t, c, 1, 2, true)
	next(t, c, 6, api.Timer{}, false)
	set(t, c, timer(2, 1, 4), true)
	next(t, c, 9, timer(2, 1, 4), true)
	next(t, c, 9, timer(7, 1, 3), true)
	next(t, c, 7, api.Timer{}, false)
	next(t, c, 9, timer(8, 1, 1), true)
	holds(t, c, 8, nil)
}

// TestNextAgain: P9.2: one that is set anew at its own time, as it goes off, comes again behind those of its time that are less.
func TestNextAgain(t *testing.T) {
	c := clockOf(t, 0, timers(5, 1, 1, 5, 2, 2))
	next(t, c, 5, timer(5, 1, 1), true)
	set(t, c, timer(5, 3, 3), true)
	set(t, c, timer(5, 1, 1), true)
	next(t, c, 5, timer(5, 1, 1), true)
	next(t, c, 5, timer(5, 2, 2), true)
	next(t, c, 5, timer(5, 3, 3), true)
	holds(t, c, 5, nil)
}

// TestGo: P9.2: to before now no, to now, up to the first timer, no further than that.
func TestGo(t *testing.T) {
	was := timers(20, 1, 1, 30, 2, 2)
	for _, x := range []struct {
		to int
		ok bool
	}{
		{least, false}, {-1, false}, {0, false}, {9, false}, {10, true}, {11, true}, {19, true},
		{20, false}, {21, false}, {30, false}, {31, false}, {maxTime, false}, {maxTime + 1, false}, {greatest, false},
	} {
		c := clockOf(t, 10, was)
		goTo(t, c, x.to, x.ok)
		if x.ok {
			holds(t, c, x.to, was)
		} else {
			holds(t, c, 10, was)
		}
	}
}

// TestGoFree: P9.2: without a timer, or with one at MaxTime, as far as the time goes.
func TestGoFree(t *testing.T) {
	for _, now := range []int{0, 10, maxTime - 1, maxTime} {
		for _, x := range []struct {
			to int
			ok bool
		}{
			{least, false}, {-1, false}, {now - 1, false}, {now, true}, {maxTime, true}, {maxTime + 1, false}, {greatest, false},
		} {
			c := clock.New(now)
			goTo(t, c, x.to, x.ok)
			if x.ok {
				holds(t, c, x.to, nil)
			} else {
				holds(t, c, now, nil)
			}
		}
	}
	c := clockOf(t, 0, timers(maxTime, 1, 1))
	goTo(t, c, maxTime, false)
	goTo(t, c, maxTime-1, true)
	holds(t, c, maxTime-1, timers(maxTime, 1, 1))
}

// TestGoAtNow: P9.2: with a timer at now not even to now.
func TestGoAtNow(t *testing.T) {
	for _, now := range []int{0, 10, maxTime} {
		c := clockOf(t, now, timers(now, 1, 1))
		goTo(t, c, now, false)
		holds(t, c, now, timers(now, 1, 1))
		next(t, c, now, timer(now, 1, 1), true)
		goTo(t, c, now, true)
		holds(t, c, now, nil)
	}
}

// TestGoAfter: P9.2: what is cut or put off holds nobody up; a time that was gone from does not come back.
func TestGoAfter(t *testing.T) {
	c := clockOf(t, 0, timers(5, 1, 1, 6, 2, 2))
	cut(t, c, 1, 1, true)
	goTo(t, c, 5, true)
	goTo(t, c, 4, false)
	goTo(t, c, 6, false)
	set(t, c, timer(8, 2, 2), true)
	goTo(t, c, 7, true)
	goTo(t, c, 7, true)
	goTo(t, c, 6, false)
	holds(t, c, 7, timers(8, 2, 2))
	next(t, c, 9, timer(8, 2, 2), true)
	goTo(t, c, 9, true)
	holds(t, c, 9, nil)
}
