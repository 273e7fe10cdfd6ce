package state_test

import (
	"math/rand"
	"slices"
	"testing"

	"triage/api"
	"triage/probe"
	"triage/state"
)

func free(t *testing.T, s api.Status, want bool) {
	t.Helper()
	was := changed(s, func(s *api.Status) {})
	if got := state.Free(s); got != want {
		t.Errorf("Free(%+v) = %v", s, got)
	}
	if !alike(s, was) {
		t.Errorf("Free changed %+v to %+v", was, s)
	}
}

// TestFree: P16.2: it does not drain, is well, and not out: each either way, and well or not by each of the ways there are.
func TestFree(t *testing.T) {
	for _, x := range []struct {
		drains, out, up bool
		forced          int
		want            bool
	}{
		{false, false, true, 0, true}, {false, false, false, 0, false}, {false, true, true, 0, false}, {false, true, false, 0, false},
		{true, false, true, 0, false}, {true, false, false, 0, false}, {true, true, true, 0, false}, {true, true, false, 0, false},
		{false, false, true, 1, false}, {false, false, false, 1, false}, {false, true, true, 1, false}, {false, true, false, 1, false},
		{true, false, true, 1, false}, {true, false, false, 1, false}, {true, true, true, 1, false}, {true, true, false, 1, false},
		{false, false, true, 2, true}, {false, false, false, 2, true}, {false, true, true, 2, false}, {false, true, false, 2, false},
		{true, false, true, 2, false}, {true, false, false, 2, false}, {true, true, true, 2, false}, {true, true, false, 2, false},
		// Forced to what is nothing: not well.
		{false, false, true, 3, false}, {false, false, false, 3, false}, {false, false, true, -1, false}, {false, false, false, -1, false},
		{false, false, true, least, false}, {false, false, true, greatest, false}, {false, false, true, 1<<32 + 2, false}, {false, false, true, 1 << 32, false},
	} {
		for _, s := range []api.Status{made(7), bare(7), {}} {
			free(t, changed(s, func(s *api.Status) {
				s.Drains, s.Outing.Out, s.Probing.Up, s.Probing.Forced = x.drains, x.out, x.up, x.forced
			}), x.want)
		}
	}
}

// TestFreeAny: P16.2: nothing else counts: not what was, not how often, not how busy it is, not whether it may be.
func TestFreeAny(t *testing.T) {
	for _, f := range numbers() {
		if f.name == "Forced" {
			continue
		}
		for _, n := range edges() {
			for i, s := range kinds(7) {
				free(t, changed(s, func(s *api.Status) { *f.of(s) = n }), i == 0)
			}
		}
	}
	r := rand.New(rand.NewSource(166))
	yes := 0
	for range 20000 {
		s := drawnStatus(r)
		want := true
		if s.Drains || s.Outing.Out || !probe.Well(s.Probing) {
			want = false
		}
		if want {
			yes++
		}
		free(t, s, want)
	}
	if yes < 1000 {
		t.Errorf("%d are free: too little is asked", yes)
	}
}

// tellsMembers asks for the members, and how many are out; what was handed in stays, also when what was answered is written into.
func tellsMembers(t *testing.T, l, want []api.Status, outs int) {
	t.Helper()
	was := cloned(l)
	want = cloned(want)
	got := state.Members(l)
	if !alikeRows(got, want) {
		t.Fatalf("Members(%+v) = %+v; want %+v", was, got, want)
	}
	if got := state.Outs(l); got != outs {
		t.Errorf("Outs(%+v) = %d; want %d", was, got, outs)
	}
	if n := state.Outs(got); n != outs {
		t.Errorf("of the members of %+v %d are out; want %d", was, n, outs)
	}
	spoil(got)
	if !alikeRows(l, was) {
		t.Errorf("Members or Outs changed %+v to %+v", was, l)
	}
}

// TestMembers: P16.2: of none, one and many, with all, some and none that drain or are out.
func TestMembers(t *testing.T) {
	in := func(id int) api.Status { return made(id) }
	out := func(id int) api.Status { return changed(made(id), func(s *api.Status) { s.Outing.Out = true }) }
	goes := func(id int) api.Status { return changed(made(id), func(s *api.Status) { s.Drains = true }) }
	both := func(id int) api.Status {
		return changed(made(id), func(s *api.Status) { s.Drains, s.Outing.Out = true, true })
	}
	type l = []api.Status
	for _, x := range []struct {
		of, want l
		outs     int
	}{
		{nil, nil, 0}, {l{}, nil, 0},
		{l{in(1)}, l{in(1)}, 0}, {l{out(1)}, l{out(1)}, 1}, {l{goes(1)}, nil, 0}, {l{both(1)}, nil, 0},
		{l{in(1), in(2), in(3)}, l{in(1), in(2), in(3)}, 0}, {l{out(1), out(2), out(3)}, l{out(1), out(2), out(3)}, 3},
		{l{goes(1), goes(2), goes(3)}, nil, 0}, {l{both(1), both(2), both(3)}, nil, 0},
		{l{in(1), goes(2), out(3)}, l{in(1), out(3)}, 1}, {l{goes(1), in(2), out(3)}, l{in(2), out(3)}, 1}, {l{in(1), out(2), goes(3)}, l{in(1), out(2)}, 1},
		{l{both(1), out(2), goes(3), in(4)}, l{out(2), in(4)}, 1}, {l{out(1), both(2), out(3), both(4)}, l{out(1), out(3)}, 2},
		// In the row's own order, and each as often as it stands there.
		{l{out(3), in(1), goes(2)}, l{out(3), in(1)}, 1}, {l{in(5), out(5), goes(5), in(5)}, l{in(5), out(5), in(5)}, 1}, {l{out(2), in(-1), out(0)}, l{out(2), in(-1), out(0)}, 2},
	} {
		tellsMembers(t, x.of, x.want, x.outs)
	}
	for _, n := range []int{1, 2, 63, 64, 65, 1000} {
		tellsMembers(t, many(n), many(n), 0)
		all := many(n)
		for i := range all {
			all[i].Outing.Out = true
		}
		tellsMembers(t, all, all, n)
		for i := range all {
			all[i].Drains = true
		}
		tellsMembers(t, all, nil, 0)
	}
}

// rows are all of up to n, each of them a member or not, out or not.
func rows(n int) [][]api.Status {
	all := [][]api.Status{nil}
	for at := 0; at < len(all); at++ {
		l := all[at]
		if len(l) == n {
			continue
		}
		for kind := range 4 {
			s := changed(bare(len(l)+1), func(s *api.Status) { s.Drains, s.Outing.Out = kind&1 != 0, kind&2 != 0 })
			all = append(all, append(slices.Clone(l), s))
		}
	}
	return all
}

// TestMembersAll: P16.2: of every row there is.
func TestMembersAll(t *testing.T) {
	all := rows(5)
	if len(all) != 1+4+16+64+256+1024 {
		t.Fatalf("%d rows", len(all))
	}
	for _, l := range all {
		var want []api.Status
		outs := 0
		for _, s := range l {
			if s.Drains {
				continue
			}
			want = append(want, s)
			if s.Outing.Out {
				outs++
			}
		}
		tellsMembers(t, l, want, outs)
	}
}

// TestMembersAny: P16.2: nothing else counts: whether it is well, has open tickets, must go, was out, or may be.
func TestMembersAny(t *testing.T) {
	r := rand.New(rand.NewSource(167))
	gone, stay, out := 0, 0, 0
	for range 10000 {
		var l, want []api.Status
		outs := 0
		for range r.Intn(7) {
			s := drawnStatus(r)
			l = append(l, s)
			switch {
			case s.Drains:
				gone++
				continue
			case s.Outing.Out:
				outs++
			}
			want = append(want, s)
		}
		stay += len(want)
		out += outs
		tellsMembers(t, l, want, outs)
		if t.Failed() {
			t.FailNow()
		}
	}
	if gone < 5000 || stay < 5000 || out < 3000 {
		t.Errorf("%d drain, %d do not, %d are out: too little is asked", gone, stay, out)
	}
}
