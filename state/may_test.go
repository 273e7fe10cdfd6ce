package state_test

import (
	"math/rand"
	"slices"
	"testing"

	"triage/api"
	"triage/host"
	"triage/state"
)

// number is a field of a status that is a number, and what it may be by the pages.
type number struct {
	name        string
	of          func(s *api.Status) *int
	least, most int
}

// numbers are all of them; of Bucket each where the other is as made says.
func numbers() []number {
	return []number{
		{"Id", func(s *api.Status) *int { return &s.Host.Id }, 1, 1000000},
		{"Prio", func(s *api.Status) *int { return &s.Host.Prio }, 0, 3},
		{"Weight", func(s *api.Status) *int { return &s.Host.Weight }, 1, 20},
		{"Run", func(s *api.Status) *int { return &s.Probing.Run }, 0, greatest},
		{"Forced", func(s *api.Status) *int { return &s.Probing.Forced }, 0, 2},
		{"Wait", func(s *api.Status) *int { return &s.Probing.Wait }, 0, greatest},
		{"Errors", func(s *api.Status) *int { return &s.Errors }, 0, greatest},
		{"Ok", func(s *api.Status) *int { return &s.Bucket.Ok }, 0, 7},
		{"All", func(s *api.Status) *int { return &s.Bucket.All }, 5, greatest},
		{"From", func(s *api.Status) *int { return &s.Outing.From }, 0, maxTime},
		{"Until", func(s *api.Status) *int { return &s.Outing.Until }, 0, maxTime},
		{"Times", func(s *api.Status) *int { return &s.Outing.Times }, 0, maxTimes},
		{"Gone", func(s *api.Status) *int { return &s.Gone }, 0, maxTime},
		{"Since", func(s *api.Status) *int { return &s.Since }, 0, maxTime},
		{"Active", func(s *api.Status) *int { return &s.Active }, 0, greatest},
	}
}

// kinds are made, as it is, out, and as it drains.
func kinds(id int) []api.Status {
	return []api.Status{
		made(id),
		changed(made(id), func(s *api.Status) { s.Outing.Out = true }),
		changed(made(id), func(s *api.Status) { s.Drains = true }),
		changed(made(id), func(s *api.Status) { s.Probing.Up = false }),
	}
}

// row is made of each of these ids.
func row(ids ...int) []api.Status {
	var l []api.Status
	for _, id := range ids {
		l = append(l, made(id))
	}
	return l
}

// many are n, whose ids rise by 10.
func many(n int) []api.Status {
	var l []api.Status
	for i := range n {
		l = append(l, made(10*i+10))
	}
	return l
}

func may(t *testing.T, l []api.Status, want bool) {
	t.Helper()
	was := cloned(l)
	if got := state.May(l); got != want {
		t.Fatalf("May(%+v) = %v", l, got)
	}
	if !alikeRows(l, was) {
		t.Errorf("May changed %+v to %+v", was, l)
	}
}

// mayOne asks of s by itself, and in the first, the middle and the last place of a row.
func mayOne(t *testing.T, s api.Status, want bool) {
	t.Helper()
	may(t, []api.Status{s}, want)
	may(t, []api.Status{s, made(999999), made(1000000)}, want)
	may(t, []api.Status{made(1), s, made(1000000)}, want)
	may(t, []api.Status{made(1), made(2), s}, want)
}

// TestMayNumbers: P16.1: each number by itself, at its least and its greatest, one beyond on either side, and far beyond.
func TestMayNumbers(t *testing.T) {
	for _, f := range numbers() {
		for _, s := range kinds(7) {
			ask := func(n int) {
				t.Helper()
				want := f.least <= n && n <= f.most
				x := changed(s, func(s *api.Status) { *f.of(s) = n })
				if got := state.May([]api.Status{x}); got != want {
					t.Errorf("May with %s %d = %v", f.name, n, got)
				}
				if f.name != "Id" {
					mayOne(t, x, want)
				}
			}
			for n := -20; n <= 20; n++ {
				ask(n)
				ask(f.least + n)
				ask(f.most + n) // of the greatest there are some beyond, by going round to the least
			}
			for _, n := range edges() {
				ask(n)
			}
			if t.Failed() {
				t.FailNow()
			}
		}
	}
}

// TestMayHost: P16.1: each host may be, also by its texts and its Meta.
func TestMayHost(t *testing.T) {
	for i, change := range []func(h *api.Host){
		func(h *api.Host) {},
		func(h *api.Host) { h.Zone = "" },
		func(h *api.Host) { h.Meta = nil },
		func(h *api.Host) { h.Meta = []api.Pair{} },
		func(h *api.Host) { h.Meta = pairs("a", "1") },
		func(h *api.Host) { h.Meta = pairs("a", "1", "b", "2", "c", "3", "d", "4", "e", "5", "f", "6") },
		func(h *api.Host) { h.Addr = "zzzzzzzzzzzz" },
		// May not be, from here on.
		func(h *api.Host) { h.Addr = "" },
		func(h *api.Host) { h.Addr = "-" },
		func(h *api.Host) { h.Addr = "zzzzzzzzzzzzz" },
		func(h *api.Host) { h.Zone = "-" },
		func(h *api.Host) { h.Zone = "A" },
		func(h *api.Host) { h.Meta = pairs("b", "1", "a", "2") },
		func(h *api.Host) { h.Meta = pairs("a", "1", "a", "2") },
		func(h *api.Host) { h.Meta = pairs("a", "") },
		func(h *api.Host) { h.Meta = pairs("", "1") },
		func(h *api.Host) {
			h.Meta = pairs("a", "1", "b", "2", "c", "3", "d", "4", "e", "5", "f", "6", "g", "7")
		},
		func(h *api.Host) { *h = api.Host{Id: h.Id} },
	} {
		for _, s := range append(kinds(7), bare(7)) {
			mayOne(t, changed(s, func(s *api.Status) { change(&s.Host) }), i < 7)
		}
	}
	may(t, []api.Status{{}}, false)
}

// TestMayBucket: P16.1: Ok is 0 to All, for whatever All.
func TestMayBucket(t *testing.T) {
	for _, all := range append(edges(), 100, 1000) {
		for _, ok := range append(edges(), all-1, all, all+1, all/2) {
			x := changed(made(7), func(s *api.Status) { s.Bucket = api.Bucket{Ok: ok, All: all} })
			mayOne(t, x, 0 <= ok && ok <= all)
		}
	}
}

// TestMayOut: P16.1: one that drains is not out; one of the two, or neither, may be, also with anything else that may.
func TestMayOut(t *testing.T) {
	for _, s := range []api.Status{made(7), bare(7), state.New(made(7).Host, 40)} {
		for _, drains := range []bool{false, true} {
			for _, out := range []bool{false, true} {
				for _, up := range []bool{false, true} {
					for forced := range 3 {
						mayOne(t, changed(s, func(s *api.Status) {
							s.Drains, s.Outing.Out, s.Probing.Up, s.Probing.Forced = drains, out, up, forced
						}), !drains || !out)
					}
				}
			}
		}
	}
}

// TestMayMeet: P16.1: nothing is asked of two fields together but what the sentence says: not of From and Until, not of one that is not out, or does not drain.
func TestMayMeet(t *testing.T) {
	for i, change := range []func(s *api.Status){
		func(s *api.Status) { s.Outing = api.Outing{From: maxTime, Until: 0} },
		func(s *api.Status) { s.Outing = api.Outing{Out: true, From: maxTime, Until: 0} },
		func(s *api.Status) { s.Outing = api.Outing{Out: true} },
		func(s *api.Status) { s.Gone, s.Drains = maxTime, false },
		func(s *api.Status) { s.Gone, s.Drains = 0, true },
		func(s *api.Status) { s.Gone, s.Since = 1, maxTime },
		func(s *api.Status) { s.Active, s.Drains = 0, true },
		func(s *api.Status) { s.Errors, s.Bucket, s.Drains = 9, api.Bucket{Ok: 1, All: 9}, true },
		func(s *api.Status) { s.Probing.Run, s.Probing.Wait, s.Probing.Up = greatest, greatest, true },
		func(s *api.Status) { s.Active, s.Errors = greatest, greatest },
		func(s *api.Status) { s.Bucket = api.Bucket{Ok: greatest, All: greatest} },
	} {
		for _, s := range []api.Status{made(7), bare(7)} {
			if x := changed(s, change); !state.May([]api.Status{x}) {
				t.Errorf("change %d: May of %+v is no", i, x)
			}
		}
	}
}

// TestMayRow: P16.1: of no row, of one, of MaxHosts, of one more and of many more.
func TestMayRow(t *testing.T) {
	may(t, nil, true)
	may(t, []api.Status{}, true)
	may(t, many(3)[:0], true)
	all := many(1<<16 + 1)
	for n := range len(all) + 1 {
		if got := state.May(all[:n]); got != (n <= maxHosts) {
			t.Fatalf("May of %d = %v", n, got)
		}
	}
	may(t, many(maxHosts + 1)[:maxHosts], true)
	may(t, many(maxHosts + 1)[1:], true)
	// What lies behind the length is not asked.
	l := append(row(1, 2), api.Status{})
	may(t, l, false)
	may(t, l[:2], true)
}

// TestMayIds: P16.1: ids that rise, that stand twice, and that fall, wherever.
func TestMayIds(t *testing.T) {
	for _, x := range []struct {
		ids  []int
		rise bool
	}{
		{[]int{1}, true}, {[]int{1, 2}, true}, {[]int{1, 1000000}, true}, {[]int{1, 2, 3}, true}, {[]int{9, 10, 11}, true}, {[]int{3, 500, 999999, 1000000}, true},
		{[]int{1, 1}, false}, {[]int{1000000, 1000000}, false}, {[]int{2, 1}, false}, {[]int{10, 9}, false}, {[]int{1000000, 1}, false},
		{[]int{1, 1, 2}, false}, {[]int{1, 2, 2}, false}, {[]int{1, 2, 1}, false}, {[]int{2, 1, 3}, false}, {[]int{1, 3, 2}, false}, {[]int{2, 3, 1}, false}, {[]int{3, 1, 2}, false}, {[]int{3, 2, 1}, false},
		{[]int{1, 2, 3, 4, 5, 5}, false}, {[]int{1, 2, 3, 4, 6, 5}, false}, {[]int{1, 1, 2, 3, 4, 5}, false},
	} {
		may(t, row(x.ids...), x.rise)
	}
	for n := 2; n <= maxHosts; n++ {
		for i := 1; i < n; i++ {
			l := many(n)
			l[i].Host.Id = l[i-1].Host.Id
			may(t, l, false)
			l[i].Host.Id--
			may(t, l, false)
			l[i].Host.Id += 2
			may(t, l, true)
		}
	}
}

// TestMayPlace: P16.1: one that may not be is found wherever it stands, among as many as there may be.
func TestMayPlace(t *testing.T) {
	for _, n := range []int{1, 2, 3, 63, maxHosts} {
		for i := range n {
			for _, f := range numbers() {
				l := many(n)
				*f.of(&l[i]) = f.least - 1
				may(t, l, false)
				if f.most < greatest {
					*f.of(&l[i]) = f.most + 1
					may(t, l, false)
				}
			}
			l := many(n)
			l[i].Drains = true
			may(t, l, true)
			l[i].Outing.Out = true
			may(t, l, false)
		}
	}
}

// pagesMay goes through the sentence, part by part; of ids it asks each pair.
func pagesMay(l []api.Status) bool {
	may := len(l) <= maxHosts
	for j := range l {
		for i := range j {
			may = may && l[i].Host.Id < l[j].Host.Id
		}
	}
	for _, s := range l {
		may = may && host.May(s.Host)
		may = may && (s.Probing.Forced == 0 || s.Probing.Forced == 1 || s.Probing.Forced == 2)
		may = may && min(s.Probing.Run, s.Errors, s.Active, s.Probing.Wait) >= 0
		may = may && s.Outing.Times == min(max(s.Outing.Times, 0), maxTimes)
		may = may && s.Bucket.Ok == min(max(s.Bucket.Ok, 0), s.Bucket.All)
		for _, at := range []int{s.Gone, s.Since, s.Outing.From, s.Outing.Until} {
			may = may && at == min(max(at, 0), maxTime)
		}
		may = may && !(s.Drains && s.Outing.Out)
	}
	return may
}

// drawnGood is one that may be.
func drawnGood(r *rand.Rand, id int) api.Status {
	n := func(most int) int {
		switch r.Intn(4) {
		case 0:
			return most
		case 1:
			return int(r.Uint64()>>1) % most
		}
		return min(r.Intn(8), most)
	}
	s := kinds(id)[r.Intn(4)]
	s.Host.Prio, s.Host.Weight = r.Intn(4), 1+r.Intn(20)
	s.Host.Meta = s.Host.Meta[:r.Intn(len(s.Host.Meta)+1)]
	s.Probing.Run, s.Probing.Forced, s.Probing.Wait = n(greatest), r.Intn(3), n(greatest)
	s.Errors, s.Active = n(greatest), n(greatest)
	s.Bucket.All = n(greatest)
	s.Bucket.Ok = min(s.Bucket.All, n(greatest))
	s.Outing.From, s.Outing.Until, s.Outing.Times = n(maxTime), n(maxTime), n(maxTimes)
	s.Gone, s.Since = n(maxTime), n(maxTime)
	return s
}

// drawnRow is one whose ids rise, and that may be.
func drawnRow(r *rand.Rand, most int) []api.Status {
	var l []api.Status
	id := 0
	for range r.Intn(most + 1) {
		id += 1 + r.Intn(3)
		l = append(l, drawnGood(r, id))
	}
	return l
}

// TestMayDrawn: P16.1: rows that may be, and such in which a field or two are drawn anew, or places changed.
func TestMayDrawn(t *testing.T) {
	r := rand.New(rand.NewSource(162))
	yes, no := 0, 0
	for range 60000 {
		l := drawnRow(r, 6)
		if len(l) > 0 && r.Intn(3) > 0 {
			all := numbers()
			f := all[r.Intn(len(all))]
			*f.of(&l[r.Intn(len(l))]) = drawnNumber(r)
			if r.Intn(3) == 0 {
				l[r.Intn(len(l))].Outing.Out = true
			}
			if r.Intn(20) == 0 {
				i, j := r.Intn(len(l)), r.Intn(len(l))
				l[i], l[j] = l[j], l[i]
			}
		}
		want := pagesMay(l)
		if want {
			yes++
		} else {
			no++
		}
		may(t, l, want)
		if t.Failed() {
			t.FailNow()
		}
	}
	if yes < 10000 || no < 10000 {
		t.Errorf("%d may be, %d may not: too little is asked", yes, no)
	}
}

// TestMayAny: P16.1: anything by itself.
func TestMayAny(t *testing.T) {
	r := rand.New(rand.NewSource(163))
	for range 20000 {
		l := slices.Repeat([]api.Status{drawnStatus(r)}, r.Intn(3))
		may(t, l, pagesMay(l))
	}
}
