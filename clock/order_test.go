package clock_test

import (
	"math/rand"
	"slices"
	"testing"

	"triage/api"
	"triage/clock"
)

// earlier is the document's 'by At, Kind, Id' word for word, kept apart from the program.
func earlier(x, y api.Timer) bool {
	return x.At < y.At || x.At == y.At && (x.Kind < y.Kind || x.Kind == y.Kind && x.Id < y.Id)
}

// inOrder tells a row by At, Kind, Id: the first one over and over.
func inOrder(l []api.Timer) []api.Timer {
	rest := slices.Clone(l)
	var all []api.Timer
	for len(rest) > 0 {
		first := 0
		for i := range rest {
			if earlier(rest[i], rest[first]) {
				first = i
			}
		}
		all = append(all, rest[first])
		rest = slices.Delete(rest, first, first+1)
	}
	return all
}

// manyTimers are n timers in order: some of one time, some of one kind.
func manyTimers(n int) []api.Timer {
	var l []api.Timer
	for i := range n {
		l = append(l, timer(10+i/4, 1+i/2%2, 100+i))
	}
	return l
}

// arrangements are orders of a row: all of a short one, of a longer one some.
func arrangements(l []api.Timer) [][]api.Timer {
	if len(l) <= 5 {
		return permutations(l)
	}
	back := slices.Clone(l)
	slices.Reverse(back)
	all := [][]api.Timer{l, back}
	r := rand.New(rand.NewSource(int64(len(l))))
	for range 50 {
		one := slices.Clone(l)
		r.Shuffle(len(one), func(i, j int) { one[i], one[j] = one[j], one[i] })
		all = append(all, one)
	}
	return all
}

func permutations(l []api.Timer) [][]api.Timer {
	if len(l) == 0 {
		return [][]api.Timer{nil}
	}
	var all [][]api.Timer
	for i, x := range l {
		for _, rest := range permutations(slices.Delete(slices.Clone(l), i, i+1)) {
			all = append(all, append([]api.Timer{x}, rest...))
		}
	}
	return all
}

// TestInOrder: P9.3: in order, each once, whatever the order in which they were set.
func TestInOrder(t *testing.T) {
	for _, want := range [][]api.Timer{
		timers(1, 1, 1, 1, 1, 2, 1, 2, 1, 2, 1, 1, 2, 2, 0),
		timers(0, -1, 5, 0, 5, -1, 3, 0, 0, 9, 9, 9, maxTime, 1, 1),
		manyTimers(6),
		manyTimers(40),
	} {
		want = inOrder(distinct(want))
		for _, l := range arrangements(want) {
			c := clockOf(t, 0, l)
			var got []api.Timer
			for range len(want) + 1 {
				x, ok := c.Next(maxTime)
				if !ok {
					break
				}
				got = append(got, x)
				if c.Now() != x.At {
					t.Errorf("at %d behind %v", c.Now(), x)
				}
			}
			if !slices.Equal(got, want) {
				t.Errorf("set %v: went off %v", l, got)
			}
			holds(t, c, want[len(want)-1].At, nil)
		}
	}
}

// distinct leaves of those of one Kind and Id the last.
func distinct(l []api.Timer) []api.Timer {
	var all []api.Timer
	for i, x := range l {
		if !slices.ContainsFunc(l[i+1:], func(y api.Timer) bool { return x.Kind == y.Kind && x.Id == y.Id }) {
			all = append(all, x)
		}
	}
	return all
}

// TestNoneBeforeItsTime: P9.3: tick by tick each comes just at its time, and Go leaps over none.
func TestNoneBeforeItsTime(t *testing.T) {
	want := manyTimers(30)
	for _, l := range arrangements(want) {
		c := clockOf(t, 0, l)
		seen := 0
		for now := range 25 {
			for due(c, now) {
				goTo(t, c, now, false)
				goTo(t, c, maxTime, false)
				next(t, c, now-1, api.Timer{}, false)
				next(t, c, now, want[seen], true)
				if want[seen].At != now {
					t.Fatalf("%v went off at %d", want[seen], now)
				}
				seen++
			}
			next(t, c, now, api.Timer{}, false)
			goTo(t, c, now, true)
		}
		if seen != len(want) {
			t.Errorf("%d went off", seen)
		}
	}
}

// due tells if one of the timers that a clock tells has its time at to or before.
func due(c *clock.Clock, to int) bool {
	return slices.ContainsFunc(c.All(), func(x api.Timer) bool { return x.At <= to })
}

// pages is a clock as the promises spell it out: each timer by its Kind and Id, the first one looked for among all.
type pages struct {
	now int
	at  map[[2]int]int
}

func (p *pages) all() []api.Timer {
	var l []api.Timer
	for name, at := range p.at {
		l = append(l, timer(at, name[0], name[1]))
	}
	return inOrder(l)
}

func (p *pages) set(x api.Timer) bool {
	ok := x.At >= p.now && x.At <= maxTime
	if ok {
		p.at[[2]int{x.Kind, x.Id}] = x.At
	}
	return ok
}

func (p *pages) cut(kind, id int) bool {
	_, ok := p.at[[2]int{kind, id}]
	delete(p.at, [2]int{kind, id})
	return ok
}

func (p *pages) next(to int) (api.Timer, bool) {
	for _, x := range p.all() {
		if x.At <= to {
			p.now = x.At
			return x, p.cut(x.Kind, x.Id)
		}
	}
	return api.Timer{}, false
}

func (p *pages) goTo(to int) bool {
	ok := to >= p.now && to <= maxTime
	for _, at := range p.at {
		ok = ok && at > to
	}
	if ok {
		p.now = to
	}
	return ok
}

// TestAgainstPages: P9.1, P9.2, P9.3: many calls of all kinds, each answer and all that is kept as the promises say.
func TestAgainstPages(t *testing.T) {
	for seed := range int64(300) {
		r := rand.New(rand.NewSource(seed))
		now := somewhen(r, 0)
		c, p := clock.New(now), &pages{min(max(now, 0), maxTime), map[[2]int]int{}}
		last := p.now
		for range 150 {
			oneCall(t, r, c, p)
			holds(t, c, p.now, p.all())
			if c.Now() < last {
				t.Errorf("from %d back to %d", last, c.Now())
			}
			last = c.Now()
			if t.Failed() {
				t.Fatalf("seed %d", seed)
			}
		}
	}
}

func oneCall(t *testing.T, r *rand.Rand, c *clock.Clock, p *pages) {
	t.Helper()
	kind, id, when := r.Intn(4)-1, r.Intn(4)-1, somewhen(r, p.now)
	switch r.Intn(8) {
	case 0, 1, 2, 3:
		x := timer(when, kind, id)
		set(t, c, x, p.set(x))
	case 4:
		cut(t, c, kind, id, p.cut(kind, id))
	case 5, 6:
		want, is := p.next(when)
		next(t, c, when, want, is)
	default:
		goTo(t, c, when, p.goTo(when))
	}
}

// somewhen is a time near now, mostly; at times an edge, or no time at all.
func somewhen(r *rand.Rand, now int) int {
	edges := []int{least, -1, 0, maxTime - 2, maxTime - 1, maxTime, maxTime + 1, greatest}
	if r.Intn(30) == 0 {
		return edges[r.Intn(len(edges))]
	}
	return now - 2 + r.Intn(9)
}

// TestMany: P9.3: as many as nobody needs: they still come in order.
func TestMany(t *testing.T) {
	const n = 3000
	c := clock.New(0)
	for _, i := range rand.New(rand.NewSource(1)).Perm(n) {
		set(t, c, timer(i/3, i%3, i), true)
	}
	for i := range n {
		next(t, c, n, timer(i/3, i%3, i), true)
	}
	holds(t, c, (n-1)/3, nil)
}
