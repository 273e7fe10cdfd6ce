package table_test

import (
	"math"
	"math/rand"
	"slices"
	"testing"

	"triage/api"
	"triage/host"
	"triage/table"
)

// The sizes by number: the tests ask for what the pages say, not for what a constant happens to be.
const (
	maxHosts = 64
	maxId    = 1000000
)

// one is a host that may be, with a Meta; its other fields hang on its Id.
func one(id int) api.Host {
	return api.Host{
		Id: id, Addr: "a" + string(rune('a'+id%26)), Prio: id % 4, Zone: []string{"", "eu", "us"}[id%3], Weight: 1 + id%20,
		Meta: []api.Pair{{Name: "stage", Val: "b"}, {Name: "tier", Val: []string{"1", "2"}[id%2]}},
	}
}

// changed is one with something changed.
func changed(id int, change func(h *api.Host)) api.Host {
	h := one(id)
	change(&h)
	return h
}

// row makes a host of each Id.
func row(ids ...int) []api.Host {
	var l []api.Host
	for _, id := range ids {
		l = append(l, one(id))
	}
	return l
}

// many makes n hosts with the Ids 10, 20 ..
func many(n int) []api.Host {
	var l []api.Host
	for i := range n {
		l = append(l, one(10*i+10))
	}
	return l
}

// with is a copy of l with h at that place.
func with(l []api.Host, at int, h api.Host) []api.Host {
	l = slices.Clone(l)
	l[at] = h
	return l
}

// idsOf tells the Ids, in the row's order.
func idsOf(l []api.Host) []int {
	var ids []int
	for _, h := range l {
		ids = append(ids, h.Id)
	}
	return ids
}

// cloned is l with memory of its own throughout.
func cloned(l []api.Host) []api.Host {
	l = slices.Clone(l)
	for i := range l {
		l[i].Meta = slices.Clone(l[i].Meta)
	}
	return l
}

// alike tells whether two hosts are the same in each field, and alikeRows whether rows of them are.
func alike(a, b api.Host) bool {
	return a.Id == b.Id && a.Addr == b.Addr && a.Prio == b.Prio && a.Zone == b.Zone && a.Weight == b.Weight && slices.Equal(a.Meta, b.Meta)
}

func alikeRows(a, b []api.Host) bool { return slices.EqualFunc(a, b, alike) }

// drawn is a table of hosts whose Ids are drawn from 1 to most.
func drawn(r *rand.Rand, n, most int) []api.Host {
	there := map[int]bool{}
	var ids []int
	for range n {
		if id := 1 + r.Intn(most); !there[id] {
			there[id] = true
			ids = append(ids, id)
		}
	}
	slices.Sort(ids)
	return row(ids...)
}

// noHosts are hosts with that Id (the first ones have another) that may not be.
func noHosts(id int) []api.Host {
	return []api.Host{
		{},
		changed(id, func(h *api.Host) { h.Id = 0 }),
		changed(id, func(h *api.Host) { h.Id = -id }),
		changed(id, func(h *api.Host) { h.Id = maxId + 1 }),
		changed(id, func(h *api.Host) { h.Id = math.MaxInt }),
		changed(id, func(h *api.Host) { h.Addr = "" }),
		changed(id, func(h *api.Host) { h.Addr = "A" }),
		changed(id, func(h *api.Host) { h.Addr = "-" }),
		changed(id, func(h *api.Host) { h.Prio = -1 }),
		changed(id, func(h *api.Host) { h.Prio = 4 }),
		changed(id, func(h *api.Host) { h.Zone = "a b" }),
		changed(id, func(h *api.Host) { h.Weight = 0 }),
		changed(id, func(h *api.Host) { h.Weight = 21 }),
		changed(id, func(h *api.Host) { h.Meta = []api.Pair{{Name: "b", Val: "1"}, {Name: "a", Val: "1"}} }),
		changed(id, func(h *api.Host) { h.Meta = []api.Pair{{Name: "a", Val: "1"}, {Name: "a", Val: "2"}} }),
		changed(id, func(h *api.Host) { h.Meta = make([]api.Pair, 7) }),
	}
}

// noTables are rows that may not be tables.
func noTables() [][]api.Host {
	l := [][]api.Host{
		row(2, 2), row(2, 1), row(1, 2, 2), row(2, 2, 3), row(1, 3, 2), row(2, 1, 3), row(1, 2, 1), row(3, 2, 1),
		row(10, 9), row(maxId, 1), many(maxHosts + 1), append(many(maxHosts), one(5)), append(row(5), many(maxHosts)...),
		with(many(maxHosts), 63, one(630)), with(many(maxHosts), 0, one(20)), make([]api.Host, maxHosts), make([]api.Host, 1000),
	}
	for _, h := range noHosts(20) {
		l = append(l, []api.Host{h}, with(many(3), 1, h), with(many(maxHosts), 1, h))
	}
	return l
}

func may(t *testing.T, l []api.Host, want bool) {
	t.Helper()
	if got := table.May(l); got != want {
		t.Errorf("May of %v = %v", idsOf(l), got)
	}
}

// TestMaySizes: P8.1: none, one, up to as many as may be, and more.
func TestMaySizes(t *testing.T) {
	may(t, nil, true)
	may(t, []api.Host{}, true)
	may(t, row(1), true)
	may(t, row(maxId), true)
	may(t, row(1, maxId), true)
	for n := range 200 {
		may(t, many(n), n <= maxHosts)
	}
	may(t, many(99999), false)
	l := make([]api.Host, 1000000)
	may(t, l, false)
	may(t, l[:65], false)
	may(t, l[:0], true)
}

// TestMayRising: Ids rise strictly, as numbers, at every place.
func TestMayRising(t *testing.T) {
	for a := 1; a <= 12; a++ {
		for b := 1; b <= 12; b++ {
			may(t, row(a, b), a < b)
			for c := 1; c <= 12; c++ {
				may(t, row(a, b, c), a < b && b < c)
			}
		}
	}
	for at := range maxHosts {
		for _, by := range []int{-20, -11, -10, -9, 0, 9, 10, 11, 20} {
			id := 10*at + 10 + by
			if id < 1 {
				continue
			}
			fits := (at == 0 || id > 10*at) && (at == maxHosts-1 || id < 10*at+20)
			may(t, with(many(maxHosts), at, one(id)), fits)
		}
	}
}

// TestMayOtherFields: only the Ids must differ: hosts may be alike in all else, and need be in no order by it.
func TestMayOtherFields(t *testing.T) {
	a, b := one(1), one(1)
	b.Id = 2
	may(t, []api.Host{a, b}, true)
	a.Addr, b.Addr = "z", "a"
	a.Prio, b.Prio = 3, 0
	a.Weight, b.Weight = 20, 1
	may(t, []api.Host{a, b}, true)
	may(t, []api.Host{b, a}, false)
}

// TestMayHosts: a host that may not be, at each place of a table.
func TestMayHosts(t *testing.T) {
	for i, h := range noHosts(20) {
		if host.May(h) {
			t.Fatal(i, "may be")
		}
		may(t, []api.Host{h}, false)
	}
	for at := range maxHosts {
		for _, h := range noHosts(10*at + 10) {
			may(t, with(many(maxHosts), at, h), false)
		}
	}
	for _, l := range noTables() {
		may(t, l, false)
	}
}

// TestMayBehind: R2: what lies behind the length is not read.
func TestMayBehind(t *testing.T) {
	may(t, row(1, 2, 2)[:2], true)
	may(t, many(65)[:64], true)
	may(t, []api.Host{one(1), {}}[:1], true)
}

func find(t *testing.T, l []api.Host, id, want int) {
	t.Helper()
	if got := table.Find(l, id); got != want {
		t.Errorf("Find(%v, %d) = %d, want %d", idsOf(l), id, got, want)
	}
}

// TestFind: P8.1: the first, the last, between, below all, beyond all, lacking.
func TestFind(t *testing.T) {
	l := row(2, 5, 9)
	for id, want := range map[int]int{2: 0, 5: 1, 9: 2, 1: -1, 0: -1, -2: -1, 3: -1, 4: -1, 6: -1, 8: -1, 10: -1, maxId: -1, math.MinInt: -1, math.MaxInt: -1, 2 + 1<<32: -1} {
		find(t, l, id, want)
	}
	for _, id := range []int{0, 1, -1, math.MinInt, math.MaxInt} {
		find(t, nil, id, -1)
		find(t, []api.Host{}, id, -1)
	}
	find(t, row(1), 1, 0)
	find(t, row(1), 2, -1)
	for n := range maxHosts + 1 {
		for id := range 10*n + 20 {
			want := -1
			if id%10 == 0 && id >= 10 && id <= 10*n {
				want = id/10 - 1
			}
			find(t, many(n), id, want)
		}
	}
}

// TestFindOdd: also of rows that may not be tables, the first one.
func TestFindOdd(t *testing.T) {
	find(t, row(2, 2), 2, 0)
	find(t, row(1, 2, 2, 2), 2, 1)
	find(t, row(3, 1, 2, 1, 3, 2), 3, 0)
	find(t, row(3, 1, 2, 1, 3, 2), 1, 1)
	find(t, row(3, 1, 2, 1, 3, 2), 2, 2)
	find(t, row(9, 5, 2), 2, 2)
	find(t, row(9, 5, 2), 9, 0)
	find(t, row(9, 5, 2), 4, -1)
	find(t, []api.Host{{}, {}}, 0, 0)
	find(t, []api.Host{{Id: 1}, {Id: -4}, {Id: math.MinInt}, {Id: -4}}, -4, 1)
	find(t, []api.Host{{Id: 1}, {Id: math.MaxInt}, {Id: math.MinInt}}, math.MinInt, 2)
	find(t, many(100), 1000, 99)
	find(t, many(100), 1001, -1)
	find(t, row(1, 2, 3)[:2], 3, -1)
	find(t, row(1, 2, 3)[:0], 1, -1)
}

// TestFindDrawn: held against a look at every place.
func TestFindDrawn(t *testing.T) {
	r := rand.New(rand.NewSource(81))
	for range 20000 {
		var ids []int
		for range r.Intn(10) {
			ids = append(ids, r.Intn(12)-2)
		}
		var l []api.Host
		for _, id := range ids {
			l = append(l, api.Host{Id: id})
		}
		id := r.Intn(14) - 3
		find(t, l, id, slices.Index(ids, id))
	}
}
