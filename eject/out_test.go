package eject_test

import (
	"math/rand"
	"slices"
	"testing"

	"triage/api"
	"triage/config"
	"triage/eject"
	"triage/spoilt"
)

const maxTimes = 10

// base is the configuration by itself, by which one is out so long the first time.
func base(n int) api.Config {
	c := config.Default()
	c.Base = n
	return c
}

// outing is one that is out.
func outing(from, until, times int) api.Outing {
	return api.Outing{Out: true, From: from, Until: until, Times: times}
}

// inside is one that is not, and so often was; what it carries of other times stays to be seen.
func inside(from, until, times int) api.Outing {
	return api.Outing{From: from, Until: until, Times: times}
}

// tellsOut asks what it is that goes out; what was handed in stays.
func tellsOut(t *testing.T, c api.Config, o api.Outing, now int, want api.Outing) {
	t.Helper()
	wasC, was := c, o
	if got := eject.Out(c, o, now); got != want {
		t.Errorf("base %d: Out(%+v, %d) = %+v; want %+v", c.Base, o, now, got, want)
	}
	if c != wasC || o != was {
		t.Errorf("Out changed %+v", was)
	}
}

// TestOutRows: P14.2: by rows.
func TestOutRows(t *testing.T) {
	c := base(100)
	for _, x := range []struct {
		o           api.Outing
		now         int
		until, many int
	}{
		// Ever longer, up to MaxTimes.
		{inside(0, 0, 0), 7, 107, 1}, {inside(0, 0, 1), 7, 207, 2}, {inside(0, 0, 2), 7, 307, 3}, {inside(0, 0, 5), 7, 607, 6},
		{inside(0, 0, 8), 7, 907, 9}, {inside(0, 0, 9), 7, 1007, 10}, {inside(0, 0, 10), 7, 1007, 10}, {inside(0, 0, 11), 7, 1007, 10}, {inside(0, 0, 12), 7, 1007, 10}, {inside(0, 0, 100), 7, 1007, 10},
		{inside(0, 0, maxTime), 7, 1007, 10}, {inside(0, 0, greatest), 7, 1007, 10}, {inside(0, 0, greatest-1), 7, 1007, 10},
		{inside(0, 0, -1), 7, 107, 1}, {inside(0, 0, -2), 7, 107, 1}, {inside(0, 0, -10), 7, 107, 1}, {inside(0, 0, least), 7, 107, 1}, {inside(0, 0, least+1), 7, 107, 1},
		// From and Until that it carries do not count, nor that it is out.
		{inside(3, 9, 4), 7, 507, 5}, {inside(900, 1000, 4), 7, 507, 5}, {inside(least, greatest, 4), 7, 507, 5}, {inside(greatest, least, 0), 7, 107, 1},
		{outing(3, 9, 0), 7, 107, 1}, {outing(3, 9, 1), 7, 207, 2}, {outing(3, 9, 9), 7, 1007, 10}, {outing(3, 9, 10), 7, 1007, 10}, {outing(3, 9, 11), 7, 1007, 10}, {outing(3, 9, -5), 7, 107, 1}, {outing(3, 900, 4), 7, 507, 5}, {outing(greatest, least, greatest), 7, 1007, 10}, {outing(0, 0, least), 7, 107, 1},
	} {
		tellsOut(t, c, x.o, x.now, outing(x.now, x.until, x.many))
	}
}

// TestOutNow: P14.2: from a time at its bounds, and from what is no time.
func TestOutNow(t *testing.T) {
	for _, x := range []struct{ base, times, now, from, until int }{
		{100, 0, 0, 0, 100}, {100, 0, 1, 1, 101}, {100, 0, -1, 0, 100}, {100, 0, -100, 0, 100}, {100, 0, -101, 0, 100}, {100, 0, least, 0, 100}, {100, 0, least + 1, 0, 100}, {100, 9, least, 0, 1000},
		// Until passes MaxTime, is just at it, is one below it.
		{100, 0, maxTime - 101, maxTime - 101, maxTime - 1}, {100, 0, maxTime - 100, maxTime - 100, maxTime}, {100, 0, maxTime - 99, maxTime - 99, maxTime}, {100, 0, maxTime - 1, maxTime - 1, maxTime}, {100, 0, maxTime, maxTime, maxTime},
		{100, 2, maxTime - 301, maxTime - 301, maxTime - 1}, {100, 2, maxTime - 300, maxTime - 300, maxTime}, {100, 2, maxTime - 299, maxTime - 299, maxTime},
		{100, 9, maxTime - 1001, maxTime - 1001, maxTime - 1}, {100, 10, maxTime - 1000, maxTime - 1000, maxTime}, {100, 11, maxTime - 999, maxTime - 999, maxTime},
		{100, 0, maxTime + 1, maxTime, maxTime}, {100, 5, maxTime + 100, maxTime, maxTime}, {100, 0, greatest, maxTime, maxTime}, {100, 9, greatest - 1, maxTime, maxTime}, {100, 0, greatest - 100, maxTime, maxTime}, {100, 0, greatest - 99, maxTime, maxTime},
		// Base at its least and at its most.
		{1, 0, 0, 0, 1}, {1, 0, 5, 5, 6}, {1, 3, 5, 5, 9}, {1, 9, 5, 5, 15}, {1, 77, 5, 5, 15}, {1, 0, maxTime - 2, maxTime - 2, maxTime - 1}, {1, 0, maxTime - 1, maxTime - 1, maxTime}, {1, 0, maxTime, maxTime, maxTime}, {1, 9, maxTime - 11, maxTime - 11, maxTime - 1},
		{10000, 0, 0, 0, 10000}, {10000, 1, 3, 3, 20003}, {10000, 8, 3, 3, 90003}, {10000, 9, 3, 3, 100003}, {10000, 10, 3, 3, 100003}, {10000, 9, maxTime - 100001, maxTime - 100001, maxTime - 1}, {10000, 9, maxTime - 100000, maxTime - 100000, maxTime}, {10000, 9, maxTime - 99999, maxTime - 99999, maxTime}, {10000, 9, greatest, maxTime, maxTime}, {10000, 9, least, 0, 100000},
	} {
		many := min(max(x.times, 0)+1, maxTimes)
		tellsOut(t, base(x.base), inside(0, 0, x.times), x.now, outing(x.from, x.until, many))
		tellsOut(t, base(x.base), outing(3, 4, x.times), x.now, outing(x.from, x.until, many))
	}
}

// someInts are numbers from the least to the greatest.
func someInts() []int {
	return []int{least, least + 1, -maxTime, -100, -11, -10, -2, -1, 0, 1, 2, 5, 8, 9, 10, 11, 12, 99, 10000, 1 << 32, maxTime - 100000, maxTime - 10000, maxTime - 10, maxTime - 2, maxTime - 1, maxTime, maxTime + 1, greatest - 100000, greatest - 1, greatest}
}

// outByPages adds Base once for each time, and stops at the end of all time.
func outByPages(longer int, o api.Outing, now int) api.Outing {
	next := api.Outing{Out: true, From: slices.Max([]int{now, 0})}
	if next.From > maxTime {
		next.From = maxTime
	}
	next.Until = next.From
	for next.Times < maxTimes && (next.Times == 0 || next.Times <= o.Times) {
		next.Times++
		for range longer {
			if next.Until < maxTime {
				next.Until++
			}
		}
	}
	return next
}

// TestOutEdges: P14.2: numbers of any size beside one another, by the sentence told one step after the other.
func TestOutEdges(t *testing.T) {
	for _, longer := range []int{1, 2, 10, 777} {
		for _, now := range someInts() {
			for _, times := range someInts() {
				o := inside(times, now, times)
				want := outByPages(longer, o, now)
				tellsOut(t, base(longer), o, now, want)
				o.Out = true
				tellsOut(t, base(longer), o, now, want)
			}
		}
	}
}

// TestOutDrawn: P14.2: drawn numbers, mostly near the bounds.
func TestOutDrawn(t *testing.T) {
	r := rand.New(rand.NewSource(142))
	ends := 0
	for range 5000 {
		longer, times, now := 1+r.Intn(1+r.Intn(10000)), r.Intn(15)-2, r.Intn(1<<40)
		if r.Intn(2) == 0 {
			now = maxTime - r.Intn(2*longer*(max(times, 0)+1))
		}
		o := api.Outing{Out: r.Intn(2) == 0, From: r.Int(), Until: -r.Int(), Times: times}
		want := outByPages(longer, o, now)
		tellsOut(t, base(longer), o, now, want)
		if want.Until == maxTime {
			ends++
		}
	}
	if ends < 1000 || ends > 4000 {
		t.Errorf("%d of them meet the end of all time: they ask too little", ends)
	}
}

// TestOutRefused: P14.2: a configuration that may not be counts as that by itself.
func TestOutRefused(t *testing.T) {
	for _, c := range spoilt.Configs(base(77)) {
		tellsOut(t, c, api.Outing{}, 5, outing(5, 3005, 1))
		tellsOut(t, c, outing(1, 2, 1), 5, outing(5, 6005, 2))
		tellsOut(t, c, inside(0, 0, 10), 5, outing(5, 30005, 10))
		tellsOut(t, c, inside(0, 0, least), -5, outing(0, 3000, 1))
		tellsOut(t, c, inside(0, 0, greatest), maxTime-30001, outing(maxTime-30001, maxTime-1, 10))
		tellsOut(t, c, inside(0, 0, 0), maxTime-3000, outing(maxTime-3000, maxTime, 1))
	}
}

// TestOutOther: P14.2: nothing else of a configuration counts.
func TestOutOther(t *testing.T) {
	c := base(20)
	c.Eject, c.One, c.Sweep, c.Drain, c.Slow, c.Errors, c.Factor = 0, false, 10, 1, 9999, 0, 0
	tellsOut(t, c, api.Outing{}, 5, outing(5, 25, 1))
	tellsOut(t, c, inside(0, 0, 2), 5, outing(5, 65, 3))
}

// tells asks what becomes of it; what was handed in stays.
func tells(t *testing.T, call func(api.Outing) api.Outing, name string, o, want api.Outing) {
	t.Helper()
	was := o
	if got := call(o); got != want {
		t.Errorf("%s(%+v) = %+v; want %+v", name, o, got, want)
	}
	if o != was {
		t.Errorf("%s changed %+v", name, was)
	}
}

func tellsBack(t *testing.T, o, want api.Outing) {
	t.Helper()
	tells(t, eject.Back, "Back", o, want)
}

func tellsFade(t *testing.T, o, want api.Outing) {
	t.Helper()
	tells(t, eject.Fade, "Fade", o, want)
}

// TestBack: P14.2: of one that is out and of one that is not, with any From and Until, and with Times at its bounds and beyond them.
func TestBack(t *testing.T) {
	for _, x := range [][2]int{{0, 0}, {1, 1}, {2, 2}, {9, 9}, {10, 10}, {11, 10}, {12, 10}, {77, 10}, {maxTime, 10}, {greatest, 10}, {-1, 0}, {-2, 0}, {-10, 0}, {least, 0}, {least + 1, 0}} {
		for _, from := range someInts() {
			for _, until := range someInts() {
				tellsBack(t, outing(from, until, x[0]), inside(0, 0, x[1]))
				tellsBack(t, inside(from, until, x[0]), inside(0, 0, x[1]))
			}
		}
	}
}

// TestFade: P14.2: of one that is out and of one that is not, with any From and Until, and with Times at its bounds and beyond them.
func TestFade(t *testing.T) {
	for _, x := range []struct{ times, out, in int }{
		{0, 0, 0}, {1, 1, 0}, {2, 2, 1}, {3, 3, 2}, {9, 9, 8}, {10, 10, 9},
		{11, 10, 9}, {12, 10, 9}, {99, 10, 9}, {maxTime, 10, 9}, {greatest, 10, 9}, {greatest - 1, 10, 9},
		{-1, 0, 0}, {-2, 0, 0}, {-10, 0, 0}, {least, 0, 0}, {least + 1, 0, 0},
	} {
		for _, from := range someInts() {
			for _, until := range someInts() {
				tellsFade(t, outing(from, until, x.times), outing(from, until, x.out))
				tellsFade(t, inside(from, until, x.times), inside(from, until, x.in))
			}
		}
	}
}
