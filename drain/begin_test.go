package drain_test

import (
	"math"
	"math/big"
	"math/rand"
	"slices"
	"testing"

	"triage/api"
	"triage/drain"
)

const (
	maxTime  = 1 << 62
	least    = math.MinInt
	greatest = math.MaxInt
)

// edges are the numbers at the ends of a time, of what a number may be, and about 0.
func edges() []int {
	return []int{least, least + 1, -maxTime - 1, -maxTime, -10, -1, 0, 1, 2, 10, maxTime - 10, maxTime - 2, maxTime - 1, maxTime, maxTime + 1, maxTime + 10, greatest - 1, greatest}
}

// pairs are a Meta: names and values by turns.
func pairs(words ...string) []api.Pair {
	var l []api.Pair
	for i := 0; i+1 < len(words); i += 2 {
		l = append(l, api.Pair{Name: words[i], Val: words[i+1]})
	}
	return l
}

// full is one of whom everything is known, and that does not drain.
func full() api.Status {
	return api.Status{
		Host:    api.Host{Id: 7, Addr: "10.0.0.1", Prio: 2, Zone: "eu", Weight: 3, Meta: pairs("stage", "b", "tier", "2")},
		Probing: api.Probing{Up: true, Run: 2, Forced: 1, Wait: 9},
		Errors:  4,
		Bucket:  api.Bucket{Ok: 1, All: 2},
		Outing:  api.Outing{Out: true, From: 1, Until: 9, Times: 2},
		Since:   5,
		Active:  3,
	}
}

// drained is what full becomes as it begins to drain.
func drained(gone int) api.Status {
	return api.Status{
		Host:    api.Host{Id: 7, Addr: "10.0.0.1", Prio: 2, Zone: "eu", Weight: 3, Meta: pairs("stage", "b", "tier", "2")},
		Probing: api.Probing{Up: true, Run: 2, Forced: 1},
		Drains:  true,
		Gone:    gone,
		Since:   5,
		Active:  3,
	}
}

// changed is s once change has been made on it.
func changed(s api.Status, change func(s *api.Status)) api.Status {
	s.Host.Meta = slices.Clone(s.Host.Meta)
	change(&s)
	return s
}

// alike holds all of two against each other, each number by itself; no Meta and an empty one are one.
func alike(a, b api.Status) bool {
	return a.Host.Id == b.Host.Id && a.Host.Addr == b.Host.Addr && a.Host.Prio == b.Host.Prio && a.Host.Zone == b.Host.Zone && a.Host.Weight == b.Host.Weight &&
		slices.Equal(a.Host.Meta, b.Host.Meta) &&
		a.Probing == b.Probing && a.Errors == b.Errors && a.Bucket == b.Bucket && a.Outing == b.Outing &&
		a.Drains == b.Drains && a.Gone == b.Gone && a.Since == b.Since && a.Active == b.Active
}

// tellsBegin asks what s begins as; what was handed in stays, also when what was answered is written into.
func tellsBegin(t *testing.T, s api.Status, now, span int, want api.Status) {
	t.Helper()
	was := s
	was.Host.Meta = slices.Clone(s.Host.Meta)
	got := drain.Begin(s, now, span)
	if !alike(got, want) {
		t.Errorf("Begin(%+v, %d, %d) = %+v; want %+v", was, now, span, got, want)
	}
	for i := range got.Host.Meta {
		got.Host.Meta[i] = api.Pair{Name: "spoilt", Val: "spoilt"}
	}
	got.Host.Meta = append(got.Host.Meta, pairs("more", "more")...)
	if !alike(s, was) {
		t.Errorf("Begin(.., %d, %d) changed %+v to %+v", now, span, was, s)
	}
}

// TestBeginGone: P15.1: Gone is now and span, MaxTime at most; what is no time is brought to one, and a span below 0 is 0.
func TestBeginGone(t *testing.T) {
	for _, x := range []struct{ now, span, gone int }{
		{10, 5, 15}, {0, 0, 0}, {0, 1, 1}, {1, 0, 1}, {1, 1, 2}, {10, 0, 10}, {123, 10000, 10123}, {40, 1, 41},
		// A span below 0.
		{10, -1, 10}, {10, -5, 10}, {10, -10, 10}, {10, -11, 10}, {10, -maxTime, 10}, {10, least, 10}, {10, least + 1, 10}, {0, -1, 0}, {0, least, 0}, {maxTime, -1, maxTime}, {maxTime, least, maxTime},
		// A now that is no time.
		{-1, 5, 5}, {-3, 5, 5}, {-5, 5, 5}, {-6, 5, 5}, {-1, 0, 0}, {-1, -1, 0}, {-maxTime, 5, 5}, {least, 5, 5}, {least + 1, 5, 5}, {least, 0, 0}, {least, least, 0}, {least, greatest, maxTime}, {least, maxTime, maxTime}, {least, maxTime - 1, maxTime - 1}, {-1, maxTime, maxTime}, {-1, maxTime + 1, maxTime},
		{maxTime + 1, 0, maxTime}, {maxTime + 1, -5, maxTime}, {maxTime + 1, 5, maxTime}, {greatest, 0, maxTime}, {greatest, -1, maxTime}, {greatest, least, maxTime}, {greatest, 1, maxTime}, {greatest, greatest, maxTime}, {greatest - 1, 5, maxTime}, {greatest - 5, 4, maxTime},
		// Gone would pass MaxTime, is just at it, and is one below it.
		{maxTime, 0, maxTime}, {maxTime, 1, maxTime}, {maxTime, maxTime, maxTime}, {maxTime, greatest, maxTime}, {maxTime - 1, 0, maxTime - 1}, {maxTime - 1, 1, maxTime}, {maxTime - 1, 2, maxTime}, {maxTime - 1, greatest, maxTime},
		{maxTime - 5, 4, maxTime - 1}, {maxTime - 5, 5, maxTime}, {maxTime - 5, 6, maxTime}, {maxTime - 5, 10000, maxTime}, {maxTime - 10001, 10000, maxTime - 1}, {maxTime - 10000, 10000, maxTime}, {maxTime - 9999, 10000, maxTime},
		{0, maxTime - 1, maxTime - 1}, {0, maxTime, maxTime}, {0, maxTime + 1, maxTime}, {0, greatest - 1, maxTime}, {0, greatest, maxTime}, {1, maxTime - 2, maxTime - 1}, {1, maxTime - 1, maxTime}, {1, maxTime, maxTime}, {3, greatest, maxTime}, {3, greatest - 3, maxTime}, {3, greatest - 2, maxTime},
		{maxTime / 2, maxTime/2 - 1, maxTime - 1}, {maxTime / 2, maxTime / 2, maxTime}, {maxTime / 2, maxTime/2 + 1, maxTime}, {maxTime/2 - 1, maxTime / 2, maxTime - 1}, {maxTime/2 + 1, maxTime / 2, maxTime},
	} {
		tellsBegin(t, full(), x.now, x.span, drained(x.gone))
		tellsBegin(t, api.Status{}, x.now, x.span, api.Status{Drains: true, Gone: x.gone})
	}
}

// TestBeginNames: P15.1: what Begin names is nothing from then on, by how much soever it was filled, and each by itself.
func TestBeginNames(t *testing.T) {
	for i, change := range []func(s *api.Status, n int){
		func(s *api.Status, n int) { s.Errors = n },
		func(s *api.Status, n int) { s.Bucket.Ok = n },
		func(s *api.Status, n int) { s.Bucket.All = n },
		func(s *api.Status, n int) { s.Bucket = api.Bucket{Ok: n, All: n} },
		func(s *api.Status, n int) { s.Outing.Out = n > 0 },
		func(s *api.Status, n int) { s.Outing.From = n },
		func(s *api.Status, n int) { s.Outing.Until = n },
		func(s *api.Status, n int) { s.Outing.Times = n },
		func(s *api.Status, n int) { s.Outing = api.Outing{Out: true, From: n, Until: n, Times: n} },
		func(s *api.Status, n int) { s.Probing.Wait = n },
		func(s *api.Status, n int) { s.Gone = n },
	} {
		for _, n := range edges() {
			set := func(s *api.Status) { change(s, n) }
			tellsBegin(t, changed(full(), set), 10, 5, drained(15))
			tellsBegin(t, changed(api.Status{}, set), 10, 5, api.Status{Drains: true, Gone: 15})
			if t.Failed() {
				t.Fatalf("change %d, %d", i, n)
			}
		}
	}
}

// TestBeginStays: P15.1: what Begin does not name stays, also what may not be: the host, how its answers go, Since, Active.
func TestBeginStays(t *testing.T) {
	for i, change := range []func(s *api.Status, n int){
		func(s *api.Status, n int) { s.Host.Id = n },
		func(s *api.Status, n int) { s.Host.Prio = n },
		func(s *api.Status, n int) { s.Host.Weight = n },
		func(s *api.Status, n int) { s.Host.Addr = []string{"", "-", "b.c", "A B"}[n&3] },
		func(s *api.Status, n int) { s.Host.Zone = []string{"", "-", "b.c", "A B"}[n&3] },
		func(s *api.Status, n int) { s.Probing.Up = n > 0 },
		func(s *api.Status, n int) { s.Probing.Run = n },
		func(s *api.Status, n int) { s.Probing.Forced = n },
		func(s *api.Status, n int) { s.Since = n },
		func(s *api.Status, n int) { s.Active = n },
	} {
		for _, n := range edges() {
			set := func(s *api.Status) { change(s, n) }
			tellsBegin(t, changed(full(), set), 10, 5, changed(drained(15), set))
			tellsBegin(t, changed(api.Status{}, set), 10, 5, changed(api.Status{Drains: true, Gone: 15}, set))
			if t.Failed() {
				t.Fatalf("change %d, %d", i, n)
			}
		}
	}
}

// TestBeginMeta: P15.1, R2: of a host with no Meta, with one pair, with many, and with such as may not be.
func TestBeginMeta(t *testing.T) {
	for _, l := range [][]api.Pair{
		nil, {}, make([]api.Pair, 0, 4), pairs("a", "1"), pairs("a", "1", "b", "2"), pairs("a", "1", "b", "2", "c", "3", "d", "4", "e", "5", "f", "6"),
		pairs("b", "2", "a", "1"), pairs("a", "1", "a", "1"), pairs("", ""), pairs("-", "A B", "", "x"), make([]api.Pair, 100),
	} {
		meta := func(s *api.Status) { s.Host.Meta = slices.Clone(l) }
		tellsBegin(t, changed(full(), meta), 10, 5, changed(drained(15), meta))
		tellsBegin(t, changed(drained(40), meta), 10, 5, changed(drained(40), meta))
	}
}

// TestBeginAgain: P15.1: one that drains already is as it is, with anything that it carries, whenever it is asked.
func TestBeginAgain(t *testing.T) {
	filled := changed(full(), func(s *api.Status) { s.Drains = true })
	for i, change := range []func(s *api.Status, n int){
		func(s *api.Status, n int) { s.Gone = n },
		func(s *api.Status, n int) { s.Errors = n },
		func(s *api.Status, n int) { s.Bucket = api.Bucket{Ok: n, All: 2} },
		func(s *api.Status, n int) { s.Bucket = api.Bucket{Ok: 1, All: n} },
		func(s *api.Status, n int) { s.Outing = api.Outing{Out: n > 0, From: n, Until: n, Times: n} },
		func(s *api.Status, n int) { s.Probing.Wait = n },
		func(s *api.Status, n int) { s.Probing = api.Probing{Up: n > 0, Run: n, Forced: n, Wait: n} },
		func(s *api.Status, n int) { s.Since = n },
		func(s *api.Status, n int) { s.Active = n },
		func(s *api.Status, n int) { s.Host.Id, s.Host.Weight = n, n },
	} {
		for _, n := range edges() {
			set := func(s *api.Status) { change(s, n) }
			for _, s := range []api.Status{filled, drained(15), {Drains: true}} {
				s = changed(s, set)
				for _, now := range edges() {
					tellsBegin(t, s, now, 5, s)
					tellsBegin(t, s, 10, now, s)
				}
			}
			if t.Failed() {
				t.Fatalf("change %d, %d", i, n)
			}
		}
	}
}

// ends are the times that n is brought to, by the pages.
func ends(n int) *big.Int {
	t := big.NewInt(int64(n))
	if t.Sign() < 0 {
		return new(big.Int)
	}
	if end := big.NewInt(maxTime); t.Cmp(end) > 0 {
		return end
	}
	return t
}

// pagesGone is now and span, added where nothing goes round.
func pagesGone(now, span int) int {
	sum := ends(now)
	if span > 0 {
		sum.Add(sum, big.NewInt(int64(span)))
	}
	if end := big.NewInt(maxTime); sum.Cmp(end) > 0 {
		return maxTime
	}
	return int(sum.Int64())
}

// drawnNumber is a small one as a rule, one about an edge, or any.
func drawnNumber(r *rand.Rand) int {
	switch r.Intn(4) {
	case 0:
		l := edges()
		return l[r.Intn(len(l))]
	case 1:
		return int(r.Uint64())
	case 2:
		return int(r.Uint64()>>1>>r.Intn(63)) - r.Intn(4)
	}
	return r.Intn(30) - 5
}

// drawnStatus is any, so far as its numbers go.
func drawnStatus(r *rand.Rand) api.Status {
	n := func() int { return drawnNumber(r) }
	yes := func() bool { return r.Intn(2) == 0 }
	s := api.Status{
		Host:    api.Host{Id: n(), Addr: "b", Prio: n(), Weight: n()},
		Probing: api.Probing{Up: yes(), Run: n(), Forced: n(), Wait: n()},
		Errors:  n(),
		Bucket:  api.Bucket{Ok: n(), All: n()},
		Outing:  api.Outing{Out: yes(), From: n(), Until: n(), Times: n()},
		Drains:  yes(),
		Gone:    n(),
		Since:   n(),
		Active:  n(),
	}
	for i := range r.Intn(8) {
		s.Host.Meta = append(s.Host.Meta, api.Pair{Name: string(rune('a' + i)), Val: "v"})
	}
	return s
}

// TestBeginDrawn: P15.1: of any, with every number drawn, against the sentence in numbers that have no end.
func TestBeginDrawn(t *testing.T) {
	r := rand.New(rand.NewSource(151))
	began, again, passed := 0, 0, 0
	for range 40000 {
		s, now, span := drawnStatus(r), drawnNumber(r), drawnNumber(r)
		if s.Drains {
			again++
			tellsBegin(t, s, now, span, s)
			continue
		}
		began++
		gone := pagesGone(now, span)
		if gone == maxTime {
			passed++
		}
		tellsBegin(t, s, now, span, api.Status{
			Host:    s.Host,
			Probing: api.Probing{Up: s.Probing.Up, Run: s.Probing.Run, Forced: s.Probing.Forced},
			Drains:  true,
			Gone:    gone,
			Since:   s.Since,
			Active:  s.Active,
		})
		if t.Failed() {
			t.FailNow()
		}
	}
	if began < 10000 || again < 10000 || passed < 2000 || began-passed < 2000 {
		t.Errorf("%d began, %d again, %d of them to MaxTime: too little is asked", began, again, passed)
	}
}
