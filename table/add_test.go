package table_test

import (
	"math"
	"math/rand"
	"slices"
	"testing"

	"triage/api"
	"triage/table"
)

// add asks for l with h: a row without a host is what stands beside an error.
func add(t *testing.T, l []api.Host, h api.Host, want []api.Host, e api.Errno) {
	t.Helper()
	got, f := table.Add(l, h)
	if f != e || !alikeRows(got, want) {
		t.Errorf("Add(%v, %d) = %v, %d; want %v, %d", idsOf(l), h.Id, idsOf(got), f, idsOf(want), e)
	}
	if f == api.OK && !table.May(got) {
		t.Errorf("Add(%v, %d) = %v, which is no table", idsOf(l), h.Id, idsOf(got))
	}
}

func cut(t *testing.T, l []api.Host, id int, want []api.Host, e api.Errno) {
	t.Helper()
	got, f := table.Cut(l, id)
	if f != e || !alikeRows(got, want) {
		t.Errorf("Cut(%v, %d) = %v, %d; want %v, %d", idsOf(l), id, idsOf(got), f, idsOf(want), e)
	}
	if f == api.OK && !table.May(got) {
		t.Errorf("Cut(%v, %d) = %v, which is no table", idsOf(l), id, idsOf(got))
	}
}

// TestAdd: P8.1: at the beginning, in the middle, at the end, into none.
func TestAdd(t *testing.T) {
	add(t, nil, one(7), row(7), api.OK)
	add(t, []api.Host{}, one(maxId), row(maxId), api.OK)
	add(t, row(2), one(1), row(1, 2), api.OK)
	add(t, row(2), one(3), row(2, 3), api.OK)
	add(t, row(2), one(10), row(2, 10), api.OK)
	add(t, row(2, 5, 9), one(1), row(1, 2, 5, 9), api.OK)
	add(t, row(2, 5, 9), one(3), row(2, 3, 5, 9), api.OK)
	add(t, row(2, 5, 9), one(4), row(2, 4, 5, 9), api.OK)
	add(t, row(2, 5, 9), one(6), row(2, 5, 6, 9), api.OK)
	add(t, row(2, 5, 9), one(10), row(2, 5, 9, 10), api.OK)
	add(t, row(2, 5, 9), one(maxId), row(2, 5, 9, maxId), api.OK)
	add(t, row(1, maxId), one(maxId-1), row(1, maxId-1, maxId), api.OK)
}

// TestAddPlaces: into tables of every size, at every place.
func TestAddPlaces(t *testing.T) {
	for n := range maxHosts {
		for at := range n + 1 {
			l := many(n)
			h := one(10*at + 5)
			add(t, l, h, slices.Insert(slices.Clone(l), at, h), api.OK)
		}
	}
}

// TestAddBare: a host that has nothing that it need not have, and one alike in all but its Id.
func TestAddBare(t *testing.T) {
	bare := api.Host{Id: 3, Addr: "x", Weight: 1}
	add(t, row(2, 5), bare, []api.Host{one(2), bare, one(5)}, api.OK)
	twin := changed(2, func(h *api.Host) { h.Id = 4 })
	add(t, row(2, 5), twin, []api.Host{one(2), twin, one(5)}, api.OK)
}

// TestAddErrors: each error alone.
func TestAddErrors(t *testing.T) {
	for _, l := range noTables() {
		add(t, l, one(7777), nil, api.ErrArg)
	}
	for _, h := range noHosts(7) {
		add(t, nil, h, nil, api.ErrArg)
		add(t, row(2, 9), h, nil, api.ErrArg)
	}
	for at := range 9 {
		add(t, many(9), one(10*at+10), nil, api.ErrTwice)
		add(t, many(9), api.Host{Id: 10*at + 10, Addr: "other", Weight: 20}, nil, api.ErrTwice)
	}
	add(t, row(4), one(4), nil, api.ErrTwice)
	for at := range maxHosts + 1 {
		add(t, many(maxHosts), one(10*at+5), nil, api.ErrFull)
	}
}

// TestAddErrorPairs: R4: of several errors the first one that is listed: each pair at once, and all.
func TestAddErrorPairs(t *testing.T) {
	full := many(maxHosts)
	for at := range maxHosts {
		add(t, full, one(10*at+10), nil, api.ErrTwice)
	}
	for _, h := range noHosts(20) {
		add(t, row(10, 20, 30), h, nil, api.ErrArg)
		add(t, full, h, nil, api.ErrArg)
		for _, l := range noTables() {
			add(t, l, h, nil, api.ErrArg)
		}
	}
	for _, h := range noHosts(25) {
		add(t, full, h, nil, api.ErrArg)
	}
	for _, l := range noTables() {
		for _, h := range l[:min(len(l), 3)] {
			add(t, l, h, nil, api.ErrArg)
		}
	}
	add(t, many(maxHosts+1), one(5), nil, api.ErrArg)
	add(t, many(maxHosts+1), one(10), nil, api.ErrArg)
	add(t, with(full, 63, one(630)), one(5), nil, api.ErrArg)
	add(t, with(full, 63, one(630)), one(10), nil, api.ErrArg)
}

// TestCut: P8.1: the first, the last, between, the only one.
func TestCut(t *testing.T) {
	cut(t, row(7), 7, nil, api.OK)
	cut(t, row(2, 5), 2, row(5), api.OK)
	cut(t, row(2, 5), 5, row(2), api.OK)
	cut(t, row(2, 5, 9), 2, row(5, 9), api.OK)
	cut(t, row(2, 5, 9), 5, row(2, 9), api.OK)
	cut(t, row(2, 5, 9), 9, row(2, 5), api.OK)
	for n := 1; n <= maxHosts; n++ {
		for at := range n {
			l := many(n)
			cut(t, l, 10*at+10, slices.Delete(slices.Clone(l), at, at+1), api.OK)
		}
	}
}

// TestCutErrors: each error alone, and both at once.
func TestCutErrors(t *testing.T) {
	strange := []int{0, -1, -2, 1, 3, 4, 6, 8, 10, maxId, maxId + 1, math.MinInt, math.MaxInt, 2 + 1<<32}
	for _, id := range strange {
		cut(t, nil, id, nil, api.ErrNone)
		cut(t, []api.Host{}, id, nil, api.ErrNone)
		cut(t, row(2, 5, 9), id, nil, api.ErrNone)
	}
	for at := range maxHosts + 1 {
		cut(t, many(maxHosts), 10*at+5, nil, api.ErrNone)
	}
	cut(t, row(2, 5, 9)[:2], 9, nil, api.ErrNone)
	for _, l := range noTables() {
		cut(t, l, 7777, nil, api.ErrArg)
		for _, h := range l[:min(len(l), 70)] {
			cut(t, l, h.Id, nil, api.ErrArg)
		}
		for _, id := range strange {
			cut(t, l, id, nil, api.ErrArg)
		}
	}
}

// TestInAndOut: P8.3: what is put in and taken out again is as it was, at every place of tables of every size.
func TestInAndOut(t *testing.T) {
	for n := range maxHosts {
		for at := range n + 1 {
			was := many(n)
			more, e := table.Add(was, one(10*at+5))
			if e != api.OK {
				t.Fatal(n, at, e)
			}
			cut(t, more, 10*at+5, many(n), api.OK)
		}
	}
}

// TestOutAndIn: and what is taken out and put in again.
func TestOutAndIn(t *testing.T) {
	for n := 1; n <= maxHosts; n++ {
		for at := range n {
			less, e := table.Cut(many(n), 10*at+10)
			if e != api.OK {
				t.Fatal(n, at, e)
			}
			add(t, less, one(10*at+10), many(n), api.OK)
		}
	}
}

// TestInAndOutDrawn: P8.1, P8.3: hosts come and go for long, held against a map of them.
func TestInAndOutDrawn(t *testing.T) {
	r := rand.New(rand.NewSource(83))
	there := map[int]api.Host{}
	var l []api.Host
	told := map[api.Errno]int{}
	for step := range 40000 {
		most := 60 + step/4000*20 // few Ids at first, so that all are there; then more than may be
		id := 1 + r.Intn(most)
		was, had := there[id]
		var got []api.Host
		var e, want api.Errno
		if r.Intn(5) < 3 {
			h := changed(1+r.Intn(500), func(h *api.Host) { h.Id = id })
			got, e = table.Add(l, h)
			switch {
			case had:
				want = api.ErrTwice
			case len(there) == maxHosts:
				want = api.ErrFull
			default:
				there[id] = h
			}
		} else {
			got, e = table.Cut(l, id)
			if !had {
				want = api.ErrNone
			}
			delete(there, id)
		}
		if told[e]++; e != want {
			t.Fatal(step, id, was, e, want)
		}
		if e == api.OK {
			l = got
		} else if got != nil {
			t.Fatal(step, "beside an error", got)
		}
		if len(l) != len(there) || !slices.IsSorted(idsOf(l)) {
			t.Fatal(step, idsOf(l))
		}
		for _, h := range l {
			if !alike(h, there[h.Id]) {
				t.Fatal(step, h, there[h.Id])
			}
		}
	}
	for _, e := range []api.Errno{api.OK, api.ErrTwice, api.ErrFull, api.ErrNone} {
		if told[e] < 500 {
			t.Error("the draw asks too little:", told)
		}
	}
}
