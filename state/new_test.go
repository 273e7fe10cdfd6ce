package state_test

import (
	"math"
	"math/rand"
	"reflect"
	"slices"
	"testing"

	"triage/api"
	"triage/state"
)

// The sizes by number: the tests ask for what the pages say, not for what a constant happens to be.
const (
	maxTime  = 1 << 62
	maxHosts = 64
	maxTimes = 10
	least    = math.MinInt
	greatest = math.MaxInt
)

// edges are the numbers at the ends of a time, of what a number may be, and about 0.
func edges() []int {
	return []int{least, least + 1, -maxTime - 1, -maxTime, -1<<32 + 1, -10, -2, -1, 0, 1, 2, 3, 9, 10, 11, 1 << 32, 1<<32 + 1, maxTime - 1, maxTime, maxTime + 1, greatest - 1, greatest}
}

// pairs are a Meta: names and values by turns.
func pairs(words ...string) []api.Pair {
	var l []api.Pair
	for i := 0; i+1 < len(words); i += 2 {
		l = append(l, api.Pair{Name: words[i], Val: words[i+1]})
	}
	return l
}

// made is one that may be, and has something in every field that one that is not out has; it is free.
func made(id int) api.Status {
	return api.Status{
		Host:    api.Host{Id: id, Addr: "10.0.0.1", Prio: 2, Zone: "eu", Weight: 3, Meta: pairs("stage", "b", "tier", "2")},
		Probing: api.Probing{Up: true, Run: 2, Wait: 9},
		Errors:  4,
		Bucket:  api.Bucket{Ok: 5, All: 7},
		Outing:  api.Outing{From: 11, Until: 19, Times: 2},
		Gone:    23,
		Since:   6,
		Active:  3,
	}
}

// bare is one of whom nothing is known.
func bare(id int) api.Status {
	return api.Status{Host: api.Host{Id: id, Addr: "a", Weight: 1}}
}

// changed is s once change has been made on it.
func changed(s api.Status, change func(s *api.Status)) api.Status {
	s.Host.Meta = slices.Clone(s.Host.Meta)
	change(&s)
	return s
}

// alike holds all of two against each other; no Meta and an empty one are one.
func alike(a, b api.Status) bool {
	m, n := a.Host.Meta, b.Host.Meta
	a.Host.Meta, b.Host.Meta = nil, nil
	return reflect.DeepEqual(a, b) && slices.Equal(m, n)
}

func alikeRows(a, b []api.Status) bool { return slices.EqualFunc(a, b, alike) }

func alikeHosts(a, b api.Host) bool { return alike(api.Status{Host: a}, api.Status{Host: b}) }

// cloned is l anew, by none of the calls that are asked here.
func cloned(l []api.Status) []api.Status {
	var c []api.Status
	for _, s := range l {
		c = append(c, changed(s, func(s *api.Status) {}))
	}
	return c
}

func idsOf(l []api.Status) []int {
	var ids []int
	for _, s := range l {
		ids = append(ids, s.Host.Id)
	}
	return ids
}

// drawnNumber is a small one as a rule, one about an edge, or any.
func drawnNumber(r *rand.Rand) int {
	switch r.Intn(4) {
	case 0:
		l := edges()
		return l[r.Intn(len(l))]
	case 1:
		return int(r.Uint64())
	}
	return r.Intn(20) - 3
}

// drawnStatus is any, whether it may be or not.
func drawnStatus(r *rand.Rand) api.Status {
	n := func() int { return drawnNumber(r) }
	yes := func() bool { return r.Intn(2) == 0 }
	s := api.Status{
		Host:    api.Host{Id: n(), Addr: []string{"", "a", "b", "A B"}[r.Intn(4)], Prio: n(), Zone: []string{"", "-", "eu"}[r.Intn(3)], Weight: n()},
		Probing: api.Probing{Up: yes(), Run: n(), Forced: r.Intn(5) - 1, Wait: n()},
		Errors:  n(),
		Bucket:  api.Bucket{Ok: n(), All: n()},
		Outing:  api.Outing{Out: yes(), From: n(), Until: n(), Times: n()},
		Drains:  yes(),
		Gone:    n(),
		Since:   n(),
		Active:  n(),
	}
	for i := range r.Intn(8) {
		s.Host.Meta = append(s.Host.Meta, api.Pair{Name: string(rune('a' + i)), Val: "v"})
	}
	return s
}

// tellsNew asks what is known of h as it is let in; what was handed in stays, also when what was answered is written into.
func tellsNew(t *testing.T, h api.Host, now, since int) {
	t.Helper()
	was := h
	was.Meta = slices.Clone(h.Meta)
	got := state.New(h, now)
	want := api.Status{Host: was, Probing: api.Probing{Up: true}, Since: since}
	if !alike(got, want) {
		t.Errorf("New(%+v, %d) = %+v; want %+v", was, now, got, want)
	}
	for i := range got.Host.Meta {
		got.Host.Meta[i] = api.Pair{Name: "spoilt", Val: "spoilt"}
	}
	got.Host.Meta = append(got.Host.Meta, pairs("more", "more")...)
	if !alikeHosts(h, was) {
		t.Errorf("New(.., %d) changed %+v to %+v", now, was, h)
	}
}

// someHosts are such as may be and such as may not, with no Meta, with one pair, and with many.
func someHosts() []api.Host {
	many := pairs("a", "1", "b", "2", "c", "3", "d", "4", "e", "5", "f", "6")
	return []api.Host{
		made(7).Host, bare(1).Host, {},
		{Id: 1000000, Addr: "zzzzzzzzzzzz", Prio: 3, Zone: "eu-west.1", Weight: 20, Meta: many},
		{Id: 3, Addr: "b", Weight: 1, Meta: []api.Pair{}},
		{Id: 3, Addr: "b", Weight: 1, Meta: make([]api.Pair, 0, 4)},
		{Id: 3, Addr: "b", Weight: 1, Meta: pairs("a", "1")},
		// May not be.
		{Id: 0, Addr: "b", Weight: 1}, {Id: least, Addr: "-", Prio: greatest, Zone: "A B", Weight: -1, Meta: pairs("b", "1", "a", "", "", "x")},
		{Id: greatest, Meta: pairs("a", "1", "a", "1")}, {Id: 3, Addr: "\xff", Weight: 21, Meta: append(slices.Clone(many), pairs("g", "7")...)},
		{Id: -7, Prio: -1, Meta: make([]api.Pair, 100)},
	}
}

// TestNew: P16.1: h, what is known of one that no probe has asked, Since now, and nothing else; a now that is no time is brought to one.
func TestNew(t *testing.T) {
	for _, x := range []struct{ now, since int }{
		{0, 0}, {1, 1}, {5, 5}, {123, 123}, {10000, 10000}, {1 << 32, 1 << 32}, {1<<61 + 1, 1<<61 + 1},
		{-1, 0}, {-2, 0}, {-10, 0}, {-1 << 32, 0}, {-maxTime, 0}, {-maxTime - 1, 0}, {least + 1, 0}, {least, 0},
		{maxTime - 1, maxTime - 1}, {maxTime, maxTime}, {maxTime + 1, maxTime}, {maxTime + 10, maxTime}, {greatest - 1, maxTime}, {greatest, maxTime},
	} {
		for _, h := range someHosts() {
			tellsNew(t, h, x.now, x.since)
		}
	}
}

// TestNewMay: P16.1: what is known of a host that may be may be, at whatever time; of one that may not be it may not.
func TestNewMay(t *testing.T) {
	for i, h := range someHosts() {
		for _, now := range edges() {
			want := i != 2 && i < 7
			if got := state.May([]api.Status{state.New(h, now)}); got != want {
				t.Errorf("May of New(%+v, %d) = %v", h, now, got)
			}
		}
	}
}

// TestExample: the chapter's example, and more of it.
func TestExample(t *testing.T) {
	for _, h := range someHosts() {
		for _, now := range edges() {
			s := state.New(h, now)
			if !state.Free(s) || len(state.Members([]api.Status{s})) != 1 || state.Outs([]api.Status{s}) != 0 {
				t.Errorf("New(%+v, %d) is not free", h, now)
			}
		}
	}
}

// TestNewDrawn: P16.1: of any host, at any time.
func TestNewDrawn(t *testing.T) {
	r := rand.New(rand.NewSource(161))
	below, within, above := 0, 0, 0
	for range 20000 {
		now, since := drawnNumber(r), 0
		switch {
		case now < 0:
			below++
		case now > maxTime:
			since = maxTime
			above++
		default:
			since = now
			within++
		}
		tellsNew(t, drawnStatus(r).Host, now, since)
		if t.Failed() {
			t.FailNow()
		}
	}
	if below < 1000 || within < 1000 || above < 1000 {
		t.Errorf("%d below, %d within, %d above: too little is asked", below, within, above)
	}
}
