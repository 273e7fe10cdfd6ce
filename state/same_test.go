package state_test

import (
	"math/rand"
	"slices"
	"testing"

	"triage/api"
	"triage/state"
)

// unlike are changes, each of one thing alone; made is unlike itself once one is made, and so are any two of them.
func unlike() []func(s *api.Status) {
	all := []func(s *api.Status){
		func(s *api.Status) { s.Host.Addr = "10.0.0.2" },
		func(s *api.Status) { s.Host.Addr = "" },
		func(s *api.Status) { s.Host.Zone = "us" },
		func(s *api.Status) { s.Host.Zone = "" },
		func(s *api.Status) { s.Host.Meta = nil },
		func(s *api.Status) { s.Host.Meta = s.Host.Meta[:1] },
		func(s *api.Status) { s.Host.Meta = s.Host.Meta[1:] },
		func(s *api.Status) { s.Host.Meta = append(s.Host.Meta, api.Pair{}) },
		func(s *api.Status) { s.Host.Meta[0].Name = "stagE" },
		func(s *api.Status) { s.Host.Meta[1].Name = "" },
		func(s *api.Status) { s.Host.Meta[0].Val = "c" },
		func(s *api.Status) { s.Host.Meta[1].Val = "3" },
		func(s *api.Status) { slices.Reverse(s.Host.Meta) },
		func(s *api.Status) { s.Probing.Up = !s.Probing.Up },
		func(s *api.Status) { s.Outing.Out = !s.Outing.Out },
		func(s *api.Status) { s.Drains = !s.Drains },
	}
	for _, f := range numbers() {
		for _, by := range []int{1, -1, 100, 1 << 32, 1 << 62, -1 << 63} {
			all = append(all, func(s *api.Status) { *f.of(s) += by })
		}
	}
	return all
}

// same asks both ways round, of what was not changed by it.
func same(t *testing.T, a, b []api.Status, want bool) {
	t.Helper()
	wasA, wasB := cloned(a), cloned(b)
	if got := state.Same(a, b); got != want {
		t.Errorf("Same(%+v, %+v) = %v", a, b, got)
	}
	if got := state.Same(b, a); got != want {
		t.Errorf("Same(%+v, %+v) = %v", b, a, got)
	}
	if !alikeRows(a, wasA) || !alikeRows(b, wasB) {
		t.Errorf("Same changed %+v or %+v", wasA, wasB)
	}
}

// TestSameFields: P16.1: rows that differ in one field of one alone, each field in its turn, and wherever it stands.
func TestSameFields(t *testing.T) {
	for _, change := range unlike() {
		for n := 1; n <= 4; n++ {
			for i := range n {
				l := many(n)
				l[i] = changed(l[i], change)
				same(t, l, many(n), false)
				same(t, l, cloned(l), true)
			}
		}
	}
}

// TestSameEach: P16.1: what is changed in one thing is unlike what is changed in another.
func TestSameEach(t *testing.T) {
	var all []api.Status
	for _, change := range unlike() {
		all = append(all, changed(made(7), change))
	}
	all = append(all, made(7), bare(7), api.Status{})
	for i, a := range all {
		for j, b := range all {
			if got := state.Same([]api.Status{a}, []api.Status{b}); got != (i == j) {
				t.Errorf("Same(%+v, %+v) = %v", a, b, got)
			}
		}
	}
}

// TestSameRows: P16.1: in length, in order, and of nothing and an empty row.
func TestSameRows(t *testing.T) {
	none := [][]api.Status{nil, {}, many(3)[:0], make([]api.Status, 0, 5)}
	for _, a := range none {
		for _, b := range none {
			same(t, a, b, true)
		}
		same(t, a, []api.Status{{}}, false)
		same(t, a, many(1), false)
		same(t, a, many(64), false)
	}
	for m := range 70 {
		for _, n := range []int{m, m + 1, m + 2, 2 * m, 65} {
			same(t, many(m), many(n), m == n)
		}
	}
	for _, x := range []struct {
		a, b []int
		want bool
	}{
		{[]int{1, 2}, []int{1, 2}, true}, {[]int{1, 2}, []int{2, 1}, false}, {[]int{1, 1}, []int{1, 1}, true}, {[]int{1}, []int{1, 1}, false},
		{[]int{1, 2, 3}, []int{1, 3, 2}, false}, {[]int{1, 2, 3}, []int{2, 3, 1}, false}, {[]int{1, 2, 3}, []int{1, 2}, false}, {[]int{1, 2, 3}, []int{2, 3}, false}, {[]int{3, 2, 1}, []int{3, 2, 1}, true},
		{[]int{1, 1, 2}, []int{1, 2, 2}, false}, {[]int{0, 0}, []int{0, 0, 0}, false}, {[]int{-1, 5}, []int{-1, 5}, true},
	} {
		same(t, row(x.a...), row(x.b...), x.want)
	}
}

// TestSameNone: R2: no Meta and an empty one are one; what lies behind a length is not seen.
func TestSameNone(t *testing.T) {
	for _, a := range [][]api.Pair{nil, {}, pairs("a", "1")[:0]} {
		for _, b := range [][]api.Pair{nil, {}, pairs("a", "1")[:0]} {
			x := changed(made(7), func(s *api.Status) { s.Host.Meta = a })
			y := changed(made(7), func(s *api.Status) { s.Host.Meta = b })
			same(t, []api.Status{x}, []api.Status{y}, true)
		}
	}
	l := many(5)
	same(t, l[:3], many(3), true)
	same(t, l[:3], l, false)
	same(t, l, l, true)
	same(t, l[1:], l[:4], false)
}

// TestSameDrawn: P16.1: of any rows, with a thing or two changed, or changed back.
func TestSameDrawn(t *testing.T) {
	r := rand.New(rand.NewSource(164))
	yes, no := 0, 0
	for range 20000 {
		var a []api.Status
		for range r.Intn(5) {
			a = append(a, drawnStatus(r))
		}
		b := cloned(a)
		if len(b) > 0 && r.Intn(2) == 0 {
			all := numbers()
			*all[r.Intn(len(all))].of(&b[r.Intn(len(b))]) += r.Intn(3) - 1
		}
		want := alikeRows(a, b)
		if want {
			yes++
		} else {
			no++
		}
		same(t, a, b, want)
	}
	if yes < 3000 || no < 3000 {
		t.Errorf("%d alike, %d not: too little is asked", yes, no)
	}
}

// TestCopy: P16.1: the copy is alike, whatever the row, and may be where the row may.
func TestCopy(t *testing.T) {
	rows := [][]api.Status{nil, {}, {{}}, many(1), many(2), many(64), many(65), many(1000), row(3, 1, 2, 1), {made(1), bare(2), {}, made(-1)}}
	for _, change := range unlike() {
		rows = append(rows, []api.Status{made(1), changed(made(2), change), made(3)})
	}
	for _, l := range rows {
		was := cloned(l)
		c := state.Copy(l)
		if !alikeRows(c, was) || !alikeRows(l, was) || !state.Same(l, c) || state.May(c) != state.May(l) {
			t.Errorf("Copy(%+v) = %+v", was, c)
		}
	}
}

// TestHosts: P16.1: those of each, in the row's order, whether they may be or not, drain or are out.
func TestHosts(t *testing.T) {
	if len(state.Hosts(nil)) != 0 || len(state.Hosts([]api.Status{})) != 0 {
		t.Error("of none there are some")
	}
	rows := [][]api.Status{many(1), many(2), many(64), many(1000), row(3, 1, 2, 1), kinds(5), {made(1), bare(2), {}, made(-1)}}
	for _, h := range someHosts() {
		rows = append(rows, []api.Status{{Host: h}, {Host: h, Drains: true, Outing: api.Outing{Out: true}}})
	}
	r := rand.New(rand.NewSource(165))
	for range 2000 {
		var l []api.Status
		for range r.Intn(6) {
			l = append(l, drawnStatus(r))
		}
		rows = append(rows, l)
	}
	for _, l := range rows {
		was := cloned(l)
		hosts := state.Hosts(l)
		if len(hosts) != len(l) || !alikeRows(l, was) {
			t.Fatalf("Hosts(%+v) = %+v", was, hosts)
		}
		for i, h := range hosts {
			if !alikeHosts(h, was[i].Host) {
				t.Errorf("Hosts(%+v): %+v at %d", was, h, i)
			}
		}
	}
}

// TestFind: P16.1: at the first, the middle and the last place; the first of several; -1 of one that is not there, and in no row.
func TestFind(t *testing.T) {
	for _, x := range []struct {
		ids      []int
		id, want int
	}{
		{nil, 0, -1}, {nil, 1, -1}, {nil, -1, -1}, {[]int{}, 7, -1},
		{[]int{7}, 7, 0}, {[]int{7}, 6, -1}, {[]int{7}, 8, -1}, {[]int{7}, 0, -1}, {[]int{7}, -7, -1}, {[]int{7}, 1<<32 + 7, -1},
		{[]int{1, 2, 3}, 1, 0}, {[]int{1, 2, 3}, 2, 1}, {[]int{1, 2, 3}, 3, 2}, {[]int{1, 2, 3}, 4, -1}, {[]int{1, 2, 3}, 0, -1}, {[]int{1, 3, 5}, 2, -1}, {[]int{1, 3, 5}, 4, -1},
		{[]int{3, 1, 2}, 1, 1}, {[]int{3, 1, 2}, 2, 2}, {[]int{3, 1, 2}, 3, 0}, {[]int{9, 8, 7, 6, 5}, 5, 4}, {[]int{9, 8, 7, 6, 5}, 9, 0}, {[]int{9, 8, 7, 6, 5}, 8, 1},
		{[]int{7, 7}, 7, 0}, {[]int{1, 7, 7}, 7, 1}, {[]int{1, 7, 2, 7, 3, 7}, 7, 1}, {[]int{7, 1, 7}, 7, 0}, {[]int{7, 7, 7, 7, 7}, 7, 0}, {[]int{1, 2, 7, 7}, 7, 2},
		{[]int{0, 1}, 0, 0}, {[]int{5, 0, 1}, 0, 1}, {[]int{5, -1}, -1, 1}, {[]int{greatest, least}, least, 1}, {[]int{greatest, least}, greatest, 0}, {[]int{greatest}, least, -1},
	} {
		l := row(x.ids...)
		if got := state.Find(l, x.id); got != x.want {
			t.Errorf("Find(%v, %d) = %d; want %d", x.ids, x.id, got, x.want)
		}
		if !alikeRows(l, row(x.ids...)) {
			t.Errorf("Find(%v, %d) changed it", x.ids, x.id)
		}
	}
	for _, n := range []int{1, 2, 64, 65, 1000} {
		l := many(n)
		for i := range n {
			if state.Find(l, 10*i+10) != i || state.Find(l, 10*i+15) != -1 || state.Find(l, 10*i+5) != -1 {
				t.Errorf("of %d: %d is at %d", n, 10*i+10, state.Find(l, 10*i+10))
			}
			if state.Find(l[:i], 10*i+10) != -1 {
				t.Errorf("of %d: what lies behind the length is found", i)
			}
		}
	}
}

// TestFindAny: P16.1: it is asked for the Id alone, whatever else is known of it.
func TestFindAny(t *testing.T) {
	for _, change := range unlike() {
		l := []api.Status{made(1), changed(made(7), change), made(7)}
		want := 1
		if l[1].Host.Id != 7 {
			want = 2
		}
		if got := state.Find(l, 7); got != want {
			t.Errorf("Find(%+v, 7) = %d; want %d", l, got, want)
		}
	}
}
