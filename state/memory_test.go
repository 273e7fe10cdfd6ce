package state_test

import (
	"slices"
	"sync"
	"testing"

	"triage/api"
	"triage/state"
)

// mark stands behind the length of rows that are handed in, and markPair behind their Metas'.
var (
	mark     = api.Status{Host: api.Host{Id: 4711, Addr: "mark", Weight: 1}, Since: 1}
	markPair = api.Pair{Name: "zz", Val: "mark"}
)

// backed is l, with marks behind its length and behind each Meta's.
func backed(l []api.Status) []api.Status {
	whole := append(cloned(l), mark, mark, mark)
	for i, s := range l {
		whole[i].Host.Meta = append(slices.Clone(s.Host.Meta), markPair, markPair)[:len(s.Host.Meta)]
	}
	return whole[:len(l)]
}

// intact tells if a backed row is as it was.
func intact(l, was []api.Status) bool {
	if !alikeRows(l, was) || !alikeRows(l[:len(l)+3][len(l):], []api.Status{mark, mark, mark}) {
		return false
	}
	for _, s := range l {
		n := len(s.Host.Meta)
		if !slices.Equal(s.Host.Meta[:n+2][n:], []api.Pair{markPair, markPair}) {
			return false
		}
	}
	return true
}

// spoil writes over a row, its Metas, and all the memory that these have room for.
func spoil(l []api.Status) {
	for _, s := range l {
		spoilMeta(s.Host.Meta)
	}
	l = l[:cap(l)]
	for i := range l {
		l[i] = api.Status{Host: api.Host{Id: -99, Addr: "spoilt"}}
	}
}

func spoilMeta(l []api.Pair) {
	l = l[:cap(l)]
	for i := range l {
		l[i] = api.Pair{Name: "spoilt", Val: "spoilt"}
	}
}

func spoilHosts(l []api.Host) {
	for _, h := range l {
		spoilMeta(h.Meta)
	}
	l = l[:cap(l)]
	for i := range l {
		l[i] = api.Host{Id: -99, Addr: "spoilt"}
	}
}

// someRows are such as may be and such as may not, with Metas and without.
func someRows() [][]api.Status {
	empty := changed(made(40), func(s *api.Status) { s.Host.Meta = []api.Pair{} })
	long := changed(made(50), func(s *api.Status) { s.Host.Meta = pairs("a", "1", "b", "2", "c", "3", "d", "4", "e", "5", "f", "6") })
	return [][]api.Status{nil, {}, many(1), many(2), {made(1), bare(30), empty, long}, {long, empty, bare(30), {}}, kinds(3), many(64), many(65)}
}

// asRow is hosts as a row, of which nothing else is known.
func asRow(hosts []api.Host) []api.Status {
	var l []api.Status
	for _, h := range hosts {
		l = append(l, api.Status{Host: h})
	}
	return l
}

// lists are the calls that tell a list, by what it tells of hosts.
func lists() map[string]func(l []api.Status) (told []api.Status, spoil func()) {
	rows := func(call func(l []api.Status) []api.Status) func(l []api.Status) ([]api.Status, func()) {
		return func(l []api.Status) ([]api.Status, func()) {
			got := call(l)
			return got, func() { spoil(got) }
		}
	}
	return map[string]func(l []api.Status) ([]api.Status, func()){
		"Copy":    rows(state.Copy),
		"Members": rows(state.Members),
		"Hosts": func(l []api.Status) ([]api.Status, func()) {
			got := state.Hosts(l)
			return asRow(got), func() { spoilHosts(got) }
		},
	}
}

// TestNewMemory: R2: what lists are told are new memory, their Metas too: neither changes what was handed in, nor is changed by it, nor by another.
func TestNewMemory(t *testing.T) {
	for name, call := range lists() {
		for _, was := range someRows() {
			l := backed(was)
			one, spoilOne := call(l)
			two, _ := call(l)
			want := cloned(one)
			again, spoilAgain := call(one)
			if !intact(l, was) {
				t.Errorf("%s(%v) changed what it was given", name, idsOf(was))
			}
			spoilOne()
			if !intact(l, was) {
				t.Errorf("%s(%v): its answer is the caller's memory", name, idsOf(was))
			}
			spoil(l[:len(l)+3])
			if !alikeRows(two, want) || !alikeRows(cloned(again), want) {
				t.Errorf("%s(%v) kept the caller's memory, or tells it twice", name, idsOf(was))
			}
			spoilAgain()
			if !alikeRows(two, want) {
				t.Errorf("%s(%v): the answer's answer is its memory", name, idsOf(was))
			}
		}
	}
}

// TestOneMeta: R2: hosts that are handed in with one Meta in common are told with one each.
func TestOneMeta(t *testing.T) {
	for name, call := range lists() {
		meta := pairs("a", "1", "b", "2")
		var l []api.Status
		for id := range 4 {
			l = append(l, changed(bare(id+1), func(s *api.Status) { s.Host.Meta = meta }))
		}
		got, _ := call(l)
		if len(got) != 4 {
			t.Fatal(name, idsOf(got))
		}
		for i := range got {
			spoilMeta(got[i].Host.Meta)
			for _, s := range slices.Concat(l, got[i+1:]) {
				if !slices.Equal(s.Host.Meta, pairs("a", "1", "b", "2")) {
					t.Fatalf("%s: a Meta is shared at %d", name, i)
				}
			}
		}
	}
}

// TestNewOwnMeta: R2: New's Meta is its own, of no Meta, of one pair and of many, and what lies behind its length is neither read nor written.
func TestNewOwnMeta(t *testing.T) {
	whole := pairs("a", "1", "b", "2", "c", "3", "d", "4")
	was := slices.Clone(whole)
	for n := range len(whole) + 1 {
		h := made(7).Host
		h.Meta = whole[:n]
		one, two := state.New(h, 5), state.New(h, 5)
		one.Host.Meta = append(one.Host.Meta, pairs("more", "more")...)
		spoilMeta(one.Host.Meta)
		if !slices.Equal(whole, was) || !slices.Equal(two.Host.Meta, was[:n]) {
			t.Fatalf("of %d: %v, %v", n, whole, two.Host.Meta)
		}
		spoilMeta(whole)
		if !slices.Equal(two.Host.Meta, was[:n]) {
			t.Fatalf("of %d: the caller's memory is kept: %v", n, two.Host.Meta)
		}
		copy(whole, was)
	}
}

// TestNothingChanged: R2: what only asks changes nothing, nor what lies behind a length.
func TestNothingChanged(t *testing.T) {
	for _, was := range append(someRows(), row(3, 1, 2), []api.Status{{}}) {
		l := backed(was)
		state.May(l)
		state.Find(l, 30)
		state.Find(l, 4711)
		state.Outs(l)
		state.Same(l, l)
		state.Same(l, many(2))
		state.Same(many(2), l)
		for _, s := range l {
			state.Free(s)
		}
		if !intact(l, was) {
			t.Errorf("%v is changed", idsOf(was))
		}
		if state.Find(l, 4711) != -1 {
			t.Errorf("%v: what lies behind the length is found", idsOf(was))
		}
	}
}

// TestManyAsk: R6: what one asks says nothing about what another is told.
func TestManyAsk(t *testing.T) {
	var all sync.WaitGroup
	l := kinds(1)
	for i := range l {
		l[i].Host.Id = i + 1
	}
	for n := range 6 {
		all.Go(func() {
			for range 100 {
				mine := state.Copy(l)
				mine[0].Host.Meta[0].Val = "mine"
				mine[0].Since = n
				if !alikeRows(mine[1:], l[1:]) || state.Same(mine, l) || !state.May(mine) {
					t.Errorf("%d: %+v", n, mine)
				}
				if !slices.Equal(idsOf(state.Members(l)), []int{1, 2, 4}) || state.Outs(l) != 1 || state.Find(l, 4) != 3 || !state.Free(l[0]) || len(state.Hosts(l)) != 4 {
					t.Errorf("%d: %v", n, idsOf(state.Members(l)))
				}
				if got := state.New(l[1].Host, n); got.Since != n || !alikeHosts(got.Host, l[1].Host) {
					t.Errorf("%d: %+v", n, got)
				}
			}
		})
	}
	all.Wait()
}
