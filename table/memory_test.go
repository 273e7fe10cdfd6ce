package table_test

import (
	"slices"
	"testing"

	"triage/api"
	"triage/table"
)

// mark stands behind the length of rows that are handed in, and markPair behind their Metas'.
var (
	mark     = api.Host{Id: 4711, Addr: "mark", Weight: 1}
	markPair = api.Pair{Name: "zz", Val: "mark"}
)

// backed is l, with marks behind its length and behind each Meta's.
func backed(l []api.Host) []api.Host {
	whole := append(cloned(l), mark, mark, mark)
	for i := range l {
		whole[i] = backedHost(l[i])
	}
	return whole[:len(l)]
}

func backedHost(h api.Host) api.Host {
	h.Meta = append(slices.Clone(h.Meta), markPair, markPair)[:len(h.Meta)]
	return h
}

// intact tells if a backed row is as it was.
func intact(row, was []api.Host) bool {
	if !alikeRows(row, was) || !alikeRows(row[:len(row)+3][len(row):], []api.Host{mark, mark, mark}) {
		return false
	}
	return !slices.ContainsFunc(row, func(h api.Host) bool { return !intactHost(h) })
}

func intactHost(h api.Host) bool {
	n := len(h.Meta)
	return slices.Equal(h.Meta[:n+2][n:], []api.Pair{markPair, markPair})
}

// spoil writes over a row, its Metas, and all the memory that these have room for.
func spoil(l []api.Host) {
	for i := range l {
		spoilHost(l[i])
	}
	l = l[:cap(l)]
	for i := range l {
		l[i] = api.Host{Id: -99, Addr: "spoilt"}
	}
}

func spoilHost(h api.Host) {
	m := h.Meta[:cap(h.Meta)]
	for i := range m {
		m[i] = api.Pair{Name: "spoilt", Val: "spoilt"}
	}
}

func spoilIds(l []int) {
	l = l[:cap(l)]
	for i := range l {
		l[i] = -99
	}
}

// someTables are tables, with Metas and without.
func someTables() [][]api.Host {
	bare := api.Host{Id: 30, Addr: "x", Weight: 1}
	empty := changed(40, func(h *api.Host) { h.Meta = []api.Pair{} })
	return [][]api.Host{nil, {}, row(10), row(10, 20), {bare}, {one(10), bare, empty, one(50)}, many(9), many(63), many(64)}
}

// TestAddMemory: R2: Add changes nothing, keeps nothing, and tells new memory.
func TestAddMemory(t *testing.T) {
	for _, was := range someTables() {
		for _, id := range []int{5, 15, 35, 5000, 10, 20} {
			l, h := backed(was), backedHost(one(id))
			got, _ := table.Add(l, h)
			want := cloned(got)
			if !intact(l, was) || !alike(h, one(id)) || !intactHost(h) {
				t.Errorf("Add(%v, %d) changed what it was given", idsOf(was), id)
			}
			spoil(got)
			if !intact(l, was) || !alike(h, one(id)) || !intactHost(h) {
				t.Errorf("Add(%v, %d): its answer is the caller's memory", idsOf(was), id)
			}
			got, _ = table.Add(l, h)
			spoilHost(h)
			spoil(l[:len(l)+3])
			if !alikeRows(got, want) {
				t.Errorf("Add(%v, %d) kept the caller's memory", idsOf(was), id)
			}
		}
	}
}

// TestCutMemory: R2: likewise Cut.
func TestCutMemory(t *testing.T) {
	for _, was := range someTables() {
		for _, id := range []int{10, 20, 30, 50, 90, 640, 5} {
			l := backed(was)
			got, _ := table.Cut(l, id)
			want := cloned(got)
			if !intact(l, was) {
				t.Errorf("Cut(%v, %d) changed what it was given", idsOf(was), id)
			}
			spoil(got)
			if !intact(l, was) {
				t.Errorf("Cut(%v, %d): its answer is the caller's memory", idsOf(was), id)
			}
			got, _ = table.Cut(l, id)
			spoil(l[:len(l)+3])
			if !alikeRows(got, want) {
				t.Errorf("Cut(%v, %d) kept the caller's memory", idsOf(was), id)
			}
		}
	}
}

// TestOneMeta: R2: hosts that are handed in with one Meta in common are told with one each.
func TestOneMeta(t *testing.T) {
	meta := []api.Pair{{Name: "a", Val: "1"}}
	var l []api.Host
	for id := 1; id <= 4; id++ {
		l = append(l, api.Host{Id: id, Addr: "x", Weight: 1, Meta: meta})
	}
	h := api.Host{Id: 9, Addr: "x", Weight: 1, Meta: meta}
	added, _ := table.Add(l, h)
	cutOut, _ := table.Cut(l, 2)
	for _, got := range [][]api.Host{added, cutOut} {
		for i := range got {
			spoilHost(got[i])
			for _, x := range append(append(l, h), got[i+1:]...) {
				if x.Meta[0].Name != "a" || x.Meta[0].Val != "1" {
					t.Fatal("shared", i, idsOf(got))
				}
			}
		}
	}
	if len(added) != 5 || len(cutOut) != 3 {
		t.Error(idsOf(added), idsOf(cutOut))
	}
}

// TestChangeMemory: R2: Change changes nothing, and what it tells shares nothing, not even one list with another.
func TestChangeMemory(t *testing.T) {
	for _, wasL := range someTables() {
		for _, wasTo := range someTables() {
			l, to := backed(wasL), backed(wasTo)
			a, b, c, _ := table.Change(l, to)
			lists := [][]int{a, b, c}
			for i := range lists {
				was := [][]int{slices.Clone(a), slices.Clone(b), slices.Clone(c)}
				spoilIds(lists[i])
				for j := range lists {
					if j != i && !slices.Equal(lists[j], was[j]) {
						t.Errorf("Change(%v, %v): lists %d and %d share memory", idsOf(l), idsOf(to), i, j)
					}
				}
			}
			if !intact(l, wasL) || !intact(to, wasTo) {
				t.Errorf("Change(%v, %v) changed what it was given", idsOf(wasL), idsOf(wasTo))
			}
		}
	}
}

// TestChangeOfOneMemory: both tables may be one, or pieces of one.
func TestChangeOfOneMemory(t *testing.T) {
	l := many(9)
	change(t, l, l, nil, nil, idsOf(l), api.OK)
	change(t, l[:6], l[3:], idsOf(l[6:]), idsOf(l[:3]), idsOf(l[3:6]), api.OK)
	if !alikeRows(l, many(9)) {
		t.Error("changed", idsOf(l))
	}
}

// TestErrorsMemory: R2, R4: what is refused changes nothing, and May and Find never do.
func TestErrorsMemory(t *testing.T) {
	for _, was := range append(noTables(), someTables()...) {
		l := backed(was)
		table.May(l)
		table.Find(l, 10)
		table.Find(l, 4711)
		for _, h := range append(noHosts(20), row(10, 5)...) {
			x := backedHost(h)
			table.Add(l, x)
			if !alike(x, h) || !intactHost(x) {
				t.Errorf("Add(%v, %d) changed the host", idsOf(was), h.Id)
			}
		}
		table.Cut(l, 10)
		table.Cut(l, 5)
		table.Change(l, row(1))
		table.Change(row(1), l)
		table.Change(l, l)
		if !intact(l, was) {
			t.Errorf("changed: %v", idsOf(was))
		}
	}
}
