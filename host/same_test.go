package host_test

import (
	"math"
	"math/rand"
	"reflect"
	"testing"

	"triage/api"
	"triage/host"
)

// same asks both ways round.
func same(t *testing.T, a, b api.Host, want bool) {
	t.Helper()
	if got := host.Same(a, b); got != want {
		t.Errorf("Same(%#v, %#v) = %v", a, b, got)
	}
	if got := host.Same(b, a); got != want {
		t.Errorf("Same(%#v, %#v) = %v", b, a, got)
	}
}

// unlikes are hosts that are unlike made in one thing alone.
func unlikes() []api.Host {
	return []api.Host{
		changed(func(h *api.Host) { h.Id = 8 }),
		changed(func(h *api.Host) { h.Id = -7 }),
		changed(func(h *api.Host) { h.Id += 1 << 32 }),
		changed(func(h *api.Host) { h.Addr = "10.0.0.2" }),
		changed(func(h *api.Host) { h.Addr = "10.0.0." }),
		changed(func(h *api.Host) { h.Addr = "" }),
		changed(func(h *api.Host) { h.Addr = "11.0.0.1" }),
		changed(func(h *api.Host) { h.Prio = 0 }),
		changed(func(h *api.Host) { h.Prio = math.MaxInt }),
		changed(func(h *api.Host) { h.Zone = "" }),
		changed(func(h *api.Host) { h.Zone = "EU-WEST" }),
		changed(func(h *api.Host) { h.Zone = "eu-wesu" }),
		changed(func(h *api.Host) { h.Weight = 4 }),
		changed(func(h *api.Host) { h.Weight = math.MinInt }),
		changed(func(h *api.Host) { h.Addr, h.Zone = h.Zone, h.Addr }),
		changed(func(h *api.Host) { h.Prio, h.Weight = h.Weight, h.Prio }),
		changed(func(h *api.Host) { h.Meta = nil }),
		changed(func(h *api.Host) { h.Meta = h.Meta[:2] }),
		changed(func(h *api.Host) { h.Meta = h.Meta[1:] }),
		changed(func(h *api.Host) { h.Meta = append(h.Meta, api.Pair{}) }),
		changed(func(h *api.Host) { h.Meta = append(h.Meta, h.Meta[2]) }),
		changed(func(h *api.Host) { h.Meta[0].Name = "canary2" }),
		changed(func(h *api.Host) { h.Meta[1].Name = "" }),
		changed(func(h *api.Host) { h.Meta[2].Name = "tieR" }),
		changed(func(h *api.Host) { h.Meta[0].Val = "na" }),
		changed(func(h *api.Host) { h.Meta[1].Val = "" }),
		changed(func(h *api.Host) { h.Meta[2].Val = "3" }),
		changed(func(h *api.Host) { h.Meta[1].Name, h.Meta[1].Val = h.Meta[1].Val, h.Meta[1].Name }),
		changed(func(h *api.Host) { h.Meta[0], h.Meta[1] = h.Meta[1], h.Meta[0] }),
		changed(func(h *api.Host) { h.Meta[1], h.Meta[2] = h.Meta[2], h.Meta[1] }),
	}
}

// TestSame: P7.1: alike in all, and unlike in one thing alone. What is unlike made is also unlike each other.
func TestSame(t *testing.T) {
	same(t, made(), made(), true)
	same(t, api.Host{}, api.Host{}, true)
	same(t, api.Host{}, made(), false)
	all := append(unlikes(), made())
	for i, a := range all {
		for j, b := range all {
			same(t, a, b, i == j)
		}
	}
}

// TestSameNone: Meta nil and Meta of no pairs are one; what lies behind the length is not seen.
func TestSameNone(t *testing.T) {
	none := changed(func(h *api.Host) { h.Meta = nil })
	empty := changed(func(h *api.Host) { h.Meta = []api.Pair{} })
	cut := changed(func(h *api.Host) { h.Meta = h.Meta[:0] })
	for _, a := range []api.Host{none, empty, cut} {
		for _, b := range []api.Host{none, empty, cut} {
			same(t, a, b, true)
		}
		same(t, a, made(), false)
	}
	same(t, api.Host{}, api.Host{Meta: []api.Pair{}}, true)
	long := changed(func(h *api.Host) { h.Meta = append(h.Meta, api.Pair{Name: "z", Val: "z"})[:3] })
	same(t, long, made(), true)
}

// TestSameOneMemory: hosts with one Meta are held by what stands there.
func TestSameOneMemory(t *testing.T) {
	h := made()
	other := h
	same(t, h, other, true)
	other.Meta = h.Meta[:2]
	same(t, h, other, false)
}

// plainSame holds the parts against each other by reflection.
func plainSame(a, b api.Host) bool {
	m, n := a.Meta, b.Meta
	a.Meta, b.Meta = nil, nil
	return reflect.DeepEqual(a, b) && (len(m) == 0 && len(n) == 0 || reflect.DeepEqual(m, n))
}

// TestSameDrawn: hosts with one to three things drawn anew.
func TestSameDrawn(t *testing.T) {
	r := rand.New(rand.NewSource(70))
	alike := 0
	for range 100000 {
		a, b := made(), made()
		for range 1 + r.Intn(3) {
			redraw(r, &b)
		}
		want := plainSame(a, b)
		same(t, a, b, want)
		if want {
			alike++
		}
	}
	if alike < 1000 {
		t.Errorf("only %d are alike: the draw asks too little", alike)
	}
}

func redraw(r *rand.Rand, h *api.Host) {
	switch r.Intn(8) {
	case 0:
		h.Id = 6 + r.Intn(3)
	case 1:
		h.Addr = []string{"10.0.0.1", "10.0.0.2"}[r.Intn(2)]
	case 2:
		h.Prio = r.Intn(3)
	case 3:
		h.Zone = []string{"eu-west", ""}[r.Intn(2)]
	case 4:
		h.Weight = 2 + r.Intn(3)
	case 5:
		h.Meta = h.Meta[:r.Intn(len(h.Meta)+1)]
	default:
		if len(h.Meta) > 0 {
			i := r.Intn(len(h.Meta))
			h.Meta[i] = made().Meta[r.Intn(3)]
		}
	}
}

// TestCopy: P7.1: the copy is alike, whatever the host, also one that may not be.
func TestCopy(t *testing.T) {
	all := append(unlikes(), made(), api.Host{}, api.Host{Meta: []api.Pair{}},
		api.Host{Id: math.MinInt, Addr: "\xff", Prio: math.MaxInt, Zone: "-", Weight: -1, Meta: risingPairs(1000)})
	for _, h := range all {
		c := host.Copy(h)
		if !plainSame(c, h) {
			t.Errorf("Copy(%#v) = %#v", h, c)
		}
		same(t, h, c, true)
		if host.May(c) != host.May(h) {
			t.Errorf("May of the copy of %#v is another", h)
		}
	}
}

// TestCopyApart: R2: what is changed in the copy does not change the host, nor the other way, nor another copy.
func TestCopyApart(t *testing.T) {
	h := made()
	c, d := host.Copy(h), host.Copy(h)
	spoil(c.Meta)
	same(t, h, made(), true)
	same(t, d, made(), true)
	spoil(h.Meta)
	same(t, d, made(), true)
	e := host.Copy(d)
	e.Id, e.Addr, e.Prio, e.Zone, e.Weight = 1, "a", 0, "b", 1
	same(t, d, made(), true)
}

// spoil writes over a row, and over what lies behind its length.
func spoil(l []api.Pair) {
	l = l[:cap(l)]
	for i := range l {
		l[i] = api.Pair{Name: "spoilt", Val: "spoilt"}
	}
}

// TestCopyBehind: R2: whoever lengthens a copy, or the host, does not write into the other, also where there are no pairs.
func TestCopyBehind(t *testing.T) {
	for n := 0; n <= 3; n++ {
		whole := made().Meta
		h := changed(func(h *api.Host) { h.Meta = whole[:n] })
		c := host.Copy(h)
		spoil(c.Meta)
		for i, p := range made().Meta {
			if whole[i] != p {
				t.Errorf("of %d pairs: pair %d is changed through the copy", n, i)
			}
		}
		c = host.Copy(h)
		before := append([]api.Pair(nil), c.Meta[:cap(c.Meta)]...)
		spoil(whole)
		for i, p := range c.Meta[:cap(c.Meta)] {
			if p != before[i] || i >= n && p != (api.Pair{}) {
				t.Errorf("of %d pairs: the copy's pair %d is %#v", n, i, p)
			}
		}
	}
}
