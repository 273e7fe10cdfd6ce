package table_test

import (
	"math/rand"
	"slices"
	"testing"

	"triage/api"
	"triage/table"
)

// change asks for what comes, goes and stays.
func change(t *testing.T, l, to []api.Host, come, gone, stay []int, e api.Errno) {
	t.Helper()
	a, b, c, f := table.Change(l, to)
	if f != e || !slices.Equal(a, come) || !slices.Equal(b, gone) || !slices.Equal(c, stay) {
		t.Errorf("Change(%v, %v) = %v, %v, %v, %d; want %v, %v, %v, %d", idsOf(l), idsOf(to), a, b, c, f, come, gone, stay, e)
	}
}

// moved is the host of that Id with another Addr.
func moved(id int) api.Host {
	return changed(id, func(h *api.Host) { h.Addr = "elsewhere" })
}

type list = []int

// TestChange: P8.2: from and to none, alike, none shared, some shared.
func TestChange(t *testing.T) {
	change(t, nil, nil, nil, nil, nil, api.OK)
	change(t, []api.Host{}, nil, nil, nil, nil, api.OK)
	change(t, nil, []api.Host{}, nil, nil, nil, api.OK)
	change(t, nil, row(2, 3), list{2, 3}, nil, nil, api.OK)
	change(t, row(2, 3), nil, nil, list{2, 3}, nil, api.OK)
	change(t, row(1, 2), row(2, 3), list{3}, list{1}, list{2}, api.OK)
	change(t, row(2, 3), row(1, 2), list{1}, list{3}, list{2}, api.OK)
	change(t, row(1, 2, 3), row(1, 2, 3), nil, nil, list{1, 2, 3}, api.OK)
	change(t, row(1, 3, 5), row(2, 4, 6), list{2, 4, 6}, list{1, 3, 5}, nil, api.OK)
	change(t, row(1, 2, 3), row(7, 8, 9), list{7, 8, 9}, list{1, 2, 3}, nil, api.OK)
	change(t, row(7, 8, 9), row(1, 2, 10), list{1, 2, 10}, list{7, 8, 9}, nil, api.OK)
	change(t, row(1, 2, 3, 4), row(2, 4), nil, list{1, 3}, list{2, 4}, api.OK)
	change(t, row(2, 4), row(1, 2, 3, 4, 10), list{1, 3, 10}, nil, list{2, 4}, api.OK)
	change(t, row(5), row(5), nil, nil, list{5}, api.OK)
	change(t, row(5), row(6), list{6}, list{5}, nil, api.OK)
	change(t, row(1, maxId), row(2, maxId), list{2}, list{1}, list{maxId}, api.OK)
}

// TestChangeAddr: who has another Addr comes and goes; the Addr of another host is another one, too.
func TestChangeAddr(t *testing.T) {
	change(t, row(4), []api.Host{moved(4)}, list{4}, list{4}, nil, api.OK)
	change(t, []api.Host{moved(4)}, row(4), list{4}, list{4}, nil, api.OK)
	change(t, []api.Host{moved(4)}, []api.Host{moved(4)}, nil, nil, list{4}, api.OK)
	change(t, row(1, 2, 3), []api.Host{one(1), moved(2), one(3), one(4)}, list{2, 4}, list{2}, list{1, 3}, api.OK)
	change(t, row(1, 2, 3), []api.Host{moved(1), moved(2), moved(3)}, list{1, 2, 3}, list{1, 2, 3}, nil, api.OK)
	change(t, row(1, 3, 5), []api.Host{moved(1), one(2), moved(5), one(6)}, list{1, 2, 5, 6}, list{1, 3, 5}, nil, api.OK)
	a, b := one(1), one(2)
	a.Addr, b.Addr = b.Addr, a.Addr
	change(t, row(1, 2), []api.Host{a, b}, list{1, 2}, list{1, 2}, nil, api.OK)
	for _, addr := range []string{"a", "abc", "ab.", "bb", "-"} {
		l, to := []api.Host{{Id: 3, Addr: "ab", Weight: 1}}, []api.Host{{Id: 3, Addr: addr, Weight: 1}}
		if addr == "-" {
			change(t, l, to, nil, nil, nil, api.ErrArg)
			continue
		}
		change(t, l, to, list{3}, list{3}, nil, api.OK)
	}
}

// TestChangeSameAddr: who has another Id does not stay by its Addr.
func TestChangeSameAddr(t *testing.T) {
	h := changed(1, func(h *api.Host) { h.Id = 2 })
	change(t, row(1), []api.Host{h}, list{2}, list{1}, nil, api.OK)
}

// TestChangeOtherFields: who has the same Addr stays, whatever else it has.
func TestChangeOtherFields(t *testing.T) {
	for _, h := range []api.Host{
		changed(5, func(h *api.Host) { h.Prio = 3 }),
		changed(5, func(h *api.Host) { h.Zone = "z" }),
		changed(5, func(h *api.Host) { h.Zone = "" }),
		changed(5, func(h *api.Host) { h.Weight = 20 }),
		changed(5, func(h *api.Host) { h.Meta = nil }),
		changed(5, func(h *api.Host) { h.Meta[0].Val = "x" }),
		{Id: 5, Addr: one(5).Addr, Prio: 2, Zone: "z", Weight: 20},
	} {
		if alike(h, one(5)) {
			t.Fatal("alike", h)
		}
		change(t, row(5), []api.Host{h}, nil, nil, list{5}, api.OK)
		change(t, row(1, 5, 9), []api.Host{one(3), h, one(9)}, list{3}, list{1}, list{5, 9}, api.OK)
		change(t, []api.Host{h}, row(5), nil, nil, list{5}, api.OK)
	}
}

// TestChangeFull: as many as may be on both sides.
func TestChangeFull(t *testing.T) {
	full := many(maxHosts)
	var other []api.Host
	for i := range maxHosts {
		other = append(other, one(10*i+15))
	}
	change(t, full, full, nil, nil, idsOf(full), api.OK)
	change(t, full, other, idsOf(other), idsOf(full), nil, api.OK)
	change(t, full, nil, nil, idsOf(full), nil, api.OK)
	change(t, nil, full, idsOf(full), nil, nil, api.OK)
	change(t, many(40), full, idsOf(full[40:]), nil, idsOf(full[:40]), api.OK)
	change(t, full, full[40:], nil, idsOf(full[:40]), idsOf(full[40:]), api.OK)
}

// TestChangeErrors: rows that may not be, on the one side, the other, and both.
func TestChangeErrors(t *testing.T) {
	for _, l := range noTables() {
		for _, m := range [][]api.Host{nil, row(1, 2), many(maxHosts)} {
			change(t, l, m, nil, nil, nil, api.ErrArg)
			change(t, m, l, nil, nil, nil, api.ErrArg)
		}
		for _, m := range noTables() {
			change(t, l, m, nil, nil, nil, api.ErrArg)
		}
	}
}

// TestChangeBehind: R2: what lies behind the length is not read.
func TestChangeBehind(t *testing.T) {
	change(t, row(1, 2, 3)[:2], row(2, 3, 4)[:1], nil, list{1}, list{2}, api.OK)
	change(t, many(65)[:1], many(65)[:2], list{20}, nil, list{10}, api.OK)
}

// TestChangeDrawn: P8.2: held against a count over all Ids, which also tells them rising.
func TestChangeDrawn(t *testing.T) {
	r := rand.New(rand.NewSource(82))
	for range 20000 {
		most := []int{6, 40, 100}[r.Intn(3)]
		l, to := drawn(r, r.Intn(maxHosts+1), most), drawn(r, r.Intn(maxHosts+1), most)
		for i := range to {
			if r.Intn(4) == 0 {
				to[i] = moved(to[i].Id)
			}
			to[i].Weight = 1 + r.Intn(20)
		}
		from, into := map[int]string{}, map[int]string{}
		for _, h := range l {
			from[h.Id] = h.Addr
		}
		for _, h := range to {
			into[h.Id] = h.Addr
		}
		var come, gone, stay []int
		for id := 1; id <= most; id++ {
			a, b := from[id], into[id]
			if a != "" && a == b {
				stay = append(stay, id)
				continue
			}
			if b != "" {
				come = append(come, id)
			}
			if a != "" {
				gone = append(gone, id)
			}
		}
		change(t, l, to, come, gone, stay, api.OK)
		change(t, to, l, gone, come, stay, api.OK)
	}
}

// TestChangeDone: who goes is cut and who comes is added: what was is then what shall be, but for the fields of those that stay.
func TestChangeDone(t *testing.T) {
	r := rand.New(rand.NewSource(84))
	for range 2000 {
		l, to := drawn(r, r.Intn(30), 40), drawn(r, r.Intn(30), 40)
		for i := range to {
			if r.Intn(4) == 0 {
				to[i] = moved(to[i].Id)
			}
		}
		come, gone, _, _ := table.Change(l, to)
		for _, id := range gone {
			l, _ = table.Cut(l, id)
		}
		for _, id := range come {
			l, _ = table.Add(l, to[table.Find(to, id)])
		}
		if !alikeRows(l, to) {
			t.Fatal(idsOf(l), idsOf(to))
		}
	}
}
