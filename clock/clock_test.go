package clock_test

import (
	"math"
	"slices"
	"testing"

	"triage/api"
	"triage/clock"
)

const (
	maxTime  = 1 << 62
	least    = math.MinInt
	greatest = math.MaxInt
)

// timer spells a timer as the document's pages do: At, Kind, Id.
func timer(at, kind, id int) api.Timer { return api.Timer{At: at, Kind: kind, Id: id} }

// timers makes a row of timers: At, Kind, Id, At, Kind, Id ..
func timers(n ...int) []api.Timer {
	var l []api.Timer
	for i := 0; i+2 < len(n); i += 3 {
		l = append(l, timer(n[i], n[i+1], n[i+2]))
	}
	return l
}

// clockOf makes a clock at now with these timers, set in this order.
func clockOf(t *testing.T, now int, l []api.Timer) *clock.Clock {
	t.Helper()
	c := clock.New(now)
	for _, x := range l {
		if !c.Set(x) {
			t.Fatalf("at %d: Set(%v) says no", now, x)
		}
	}
	return c
}

// holds asks a clock for all that it tells: the time, all timers, and each of them by its name.
func holds(t *testing.T, c *clock.Clock, now int, want []api.Timer) {
	t.Helper()
	if c.Now() != now {
		t.Errorf("Now() = %d; want %d", c.Now(), now)
	}
	if got := c.All(); !slices.Equal(got, want) {
		t.Errorf("All() = %v; want %v", got, want)
	}
	for _, x := range want {
		askAt(t, c, x.Kind, x.Id, x.At, true)
	}
}

func askAt(t *testing.T, c *clock.Clock, kind, id, want int, is bool) {
	t.Helper()
	if at, ok := c.At(kind, id); at != want || ok != is {
		t.Errorf("At(%d, %d) = %d, %v; want %d, %v", kind, id, at, ok, want, is)
	}
}

func set(t *testing.T, c *clock.Clock, x api.Timer, want bool) {
	t.Helper()
	if got := c.Set(x); got != want {
		t.Errorf("Set(%v) = %v at %d", x, got, c.Now())
	}
}

func cut(t *testing.T, c *clock.Clock, kind, id int, want bool) {
	t.Helper()
	if got := c.Cut(kind, id); got != want {
		t.Errorf("Cut(%d, %d) = %v", kind, id, got)
	}
}

// TestNew: P9.1: the time is brought to 0 to MaxTime; there is no timer.
func TestNew(t *testing.T) {
	for _, x := range [][2]int{
		{least, 0}, {least + 1, 0}, {-maxTime, 0}, {-1, 0}, {0, 0}, {1, 1}, {10, 10},
		{maxTime - 1, maxTime - 1}, {maxTime, maxTime}, {maxTime + 1, maxTime}, {greatest, maxTime},
	} {
		c := clock.New(x[0])
		holds(t, c, x[1], nil)
		askAt(t, c, 0, 0, 0, false)
		cut(t, c, 0, 0, false)
		set(t, c, timer(x[1], 1, 1), true)
		holds(t, c, x[1], timers(x[1], 1, 1))
	}
}

// TestNewAlone: R6: no clock knows of another.
func TestNewAlone(t *testing.T) {
	a := clockOf(t, 5, timers(7, 1, 1))
	b := clockOf(t, 6, timers(8, 1, 1))
	a.Next(7)
	set(t, a, timer(9, 2, 2), true)
	holds(t, a, 7, timers(9, 2, 2))
	holds(t, b, 6, timers(8, 1, 1))
	holds(t, clock.New(5), 5, nil)
}

// TestSetTimes: P9.1: from now to MaxTime a timer is set, else nothing changes.
func TestSetTimes(t *testing.T) {
	for _, now := range []int{0, 1, 10, maxTime - 1, maxTime} {
		for _, x := range []struct {
			at int
			ok bool
		}{
			{least, false}, {-maxTime, false}, {-1, false}, {now - 1, false}, {now, true},
			{maxTime, true}, {maxTime + 1, false}, {greatest, false},
		} {
			c := clock.New(now)
			set(t, c, timer(x.at, 3, 4), x.ok)
			if x.ok {
				holds(t, c, now, timers(x.at, 3, 4))
			} else {
				holds(t, c, now, nil)
			}
			askAt(t, c, 4, 3, 0, false)
		}
	}
	c := clock.New(10)
	set(t, c, timer(11, 1, 1), true)
	holds(t, c, 10, timers(11, 1, 1))
}

// TestSetBehindTheTime: P9.1: what is before now hangs on where the clock went.
func TestSetBehindTheTime(t *testing.T) {
	c := clockOf(t, 0, timers(20, 1, 1))
	set(t, c, timer(10, 2, 2), true)
	cut(t, c, 2, 2, true)
	if !c.Go(11) {
		t.Error("Go(11) says no")
	}
	set(t, c, timer(10, 2, 2), false)
	set(t, c, timer(11, 2, 2), true)
	if x, ok := c.Next(15); !ok || x != timer(11, 2, 2) {
		t.Error("Next", x, ok)
	}
	c.Next(20)
	set(t, c, timer(19, 2, 2), false)
	set(t, c, timer(20, 2, 2), true)
	holds(t, c, 20, timers(20, 2, 2))
}

// TestSetTwice: P9.1: one of the same Kind and Id is no more: whether the new one is earlier, later, or at the same time.
func TestSetTwice(t *testing.T) {
	others := timers(20, 1, 9, 30, 2, 5, 40, 3, 4)
	for _, at := range []int{10, 11, 20, 25, 30, 35, 40, 41, maxTime} {
		for _, again := range []int{10, 11, 20, 25, 30, 35, 40, 41, maxTime} {
			c := clockOf(t, 10, others)
			set(t, c, timer(at, 2, 6), true)
			set(t, c, timer(again, 2, 6), true)
			holds(t, c, 10, inOrder(append(slices.Clone(others), timer(again, 2, 6))))
			cut(t, c, 2, 6, true)
			cut(t, c, 2, 6, false)
			holds(t, c, 10, others)
		}
	}
}

// TestSetAlone: P9.1: one alone is put anew as well.
func TestSetAlone(t *testing.T) {
	c := clockOf(t, 0, timers(5, 1, 1))
	for _, at := range []int{5, 9, 3, 0, maxTime, 0} {
		set(t, c, timer(at, 1, 1), true)
		holds(t, c, 0, timers(at, 1, 1))
	}
}

// TestSetBeside: P9.1: the same Kind and another Id, the same Id and another Kind, and the two changed over, are others.
func TestSetBeside(t *testing.T) {
	c := clockOf(t, 0, timers(9, 2, 3))
	set(t, c, timer(8, 2, 4), true)
	set(t, c, timer(7, 1, 3), true)
	set(t, c, timer(6, 3, 2), true)
	set(t, c, timer(9, 2, 2), true)
	set(t, c, timer(9, 3, 3), true)
	holds(t, c, 0, timers(6, 3, 2, 7, 1, 3, 8, 2, 4, 9, 2, 2, 9, 2, 3, 9, 3, 3))
}

// TestSetRefused: P9.1, R4: a refused Set leaves the one of its Kind and Id, and all else.
func TestSetRefused(t *testing.T) {
	was := timers(10, 1, 1, 15, 2, 1, 20, 1, 2)
	c := clockOf(t, 10, was)
	for _, at := range []int{least, -1, 0, 9, maxTime + 1, greatest} {
		for _, x := range was {
			set(t, c, timer(at, x.Kind, x.Id), false)
			holds(t, c, 10, was)
		}
		set(t, c, timer(at, 7, 7), false)
		holds(t, c, 10, was)
		askAt(t, c, 7, 7, 0, false)
	}
}

// TestCut: P9.1: the first, the last, one between, of each size; none else goes.
func TestCut(t *testing.T) {
	for n := range 12 {
		l := manyTimers(n)
		for i, x := range l {
			c := clockOf(t, 0, l)
			cut(t, c, x.Kind, x.Id, true)
			left := slices.Delete(slices.Clone(l), i, i+1)
			holds(t, c, 0, left)
			askAt(t, c, x.Kind, x.Id, 0, false)
			cut(t, c, x.Kind, x.Id, false)
			holds(t, c, 0, left)
		}
		c := clockOf(t, 0, l)
		for i, x := range l {
			cut(t, c, x.Kind, x.Id, true)
			holds(t, c, 0, l[i+1:])
		}
	}
}

// TestCutNone: P9.1, R4: what isn't there: of another Kind, of another Id, the two changed over, of no timer.
func TestCutNone(t *testing.T) {
	was := timers(10, 2, 3, 10, 2, 5, 11, 4, 3)
	c := clockOf(t, 10, was)
	for _, x := range [][2]int{{2, 4}, {2, 2}, {3, 3}, {3, 2}, {5, 2}, {4, 5}, {0, 0}, {10, 2}, {-2, -3}, {least, greatest}} {
		cut(t, c, x[0], x[1], false)
		askAt(t, c, x[0], x[1], 0, false)
		holds(t, c, 10, was)
	}
}

// TestCutThatWentOff: P9.1, P9.2: one that went off is there no more; it may be set again.
func TestCutThatWentOff(t *testing.T) {
	c := clockOf(t, 0, timers(5, 1, 1, 6, 1, 2))
	c.Next(5)
	cut(t, c, 1, 1, false)
	askAt(t, c, 1, 1, 0, false)
	set(t, c, timer(7, 1, 1), true)
	holds(t, c, 5, timers(6, 1, 2, 7, 1, 1))
}

// TestAll: P9.1: none, one, many: by At, by Kind, by Id, each above all that stand behind it.
func TestAll(t *testing.T) {
	for _, want := range [][]api.Timer{
		nil,
		timers(5, 2, 1),
		timers(5, 1, 9, 5, 2, 1),
		timers(5, 2, 1, 6, 1, 0),
		timers(5, 9, 9, 6, 1, 1, 7, 0, 0),
		timers(5, 2, -7, 5, 2, 1, 5, 2, 6),
		timers(0, 5, 5, 0, 6, 4, 1, 1, 1, 1, 1, 2, 1, 2, 0, maxTime, 0, 0),
		timers(3, least, greatest, 3, -1, 0, 3, 0, least, 3, 0, -1, 3, 0, 0, 3, 0, greatest, 3, greatest, least),
		manyTimers(60),
	} {
		for _, l := range arrangements(want) {
			holds(t, clockOf(t, 0, l), 0, want)
		}
	}
}

// TestAnyNames: P9.1: any numbers are a Kind and an Id.
func TestAnyNames(t *testing.T) {
	names := []int{least, least + 1, -maxTime, -2, -1, 0, 1, 2, 1 << 32, maxTime, greatest - 1, greatest}
	c := clock.New(3)
	var want []api.Timer
	for _, kind := range names {
		for _, id := range names {
			set(t, c, timer(4, kind, id), true)
			want = append(want, timer(4, kind, id))
		}
	}
	holds(t, c, 3, want)
	for i, x := range want {
		if got, ok := c.Next(4); !ok || got != x {
			t.Fatalf("Next(4) = %v, %v; want %v", got, ok, x)
		}
		holds(t, c, 4, want[i+1:])
	}
}

// TestNil: R3: a nil clock tells zero values, whatever it is asked.
func TestNil(t *testing.T) {
	var c *clock.Clock
	for _, n := range []int{least, -1, 0, 1, 10, maxTime, maxTime + 1, greatest} {
		set(t, c, timer(n, n, n), false)
		set(t, c, timer(0, n, n), false)
		cut(t, c, n, n, false)
		askAt(t, c, n, n, 0, false)
		next(t, c, n, api.Timer{}, false)
		goTo(t, c, n, false)
		holds(t, c, 0, nil)
	}
}

// TestUnmade: R3: a clock that New did not make is one at 0.
func TestUnmade(t *testing.T) {
	var c clock.Clock
	holds(t, &c, 0, nil)
	cut(t, &c, 0, 0, false)
	askAt(t, &c, 0, 0, 0, false)
	next(t, &c, maxTime, api.Timer{}, false)
	set(t, &c, timer(-1, 1, 1), false)
	set(t, &c, timer(4, 1, 1), true)
	goTo(t, &c, 3, true)
	holds(t, &c, 3, timers(4, 1, 1))
}

// TestAllMemory: R2: what All tells is the caller's own, and stays as it was told.
func TestAllMemory(t *testing.T) {
	for _, n := range []int{1, 2, 3, 7, 8, 50} {
		l := manyTimers(n)
		c := clockOf(t, 0, l)
		kept := c.All()
		spoil(c.All())
		holds(t, c, 0, l)
		c.Set(timer(0, 0, 0))
		c.Cut(l[0].Kind, l[0].Id)
		c.Next(maxTime)
		c.Set(timer(maxTime, 77, 77))
		if !slices.Equal(kept, l) {
			t.Errorf("what All told of %d became %v", n, kept)
		}
	}
}

// TestAllTwice: R2: two answers share no memory, nor does what a clock has room for behind its timers.
func TestAllTwice(t *testing.T) {
	c := clockOf(t, 0, manyTimers(9))
	c.Cut(manyTimers(9)[8].Kind, manyTimers(9)[8].Id)
	a, b := c.All(), c.All()
	spoil(a)
	if !slices.Equal(b, manyTimers(8)) {
		t.Error("shared", b)
	}
	set(t, c, manyTimers(9)[8], true)
	holds(t, c, 0, manyTimers(9))
}

// spoil writes over a row and all the memory it has room for.
func spoil(l []api.Timer) {
	l = l[:cap(l)]
	for i := range l {
		l[i] = timer(-99, -99, -99)
	}
}
