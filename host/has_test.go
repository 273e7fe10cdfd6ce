package host_test

import (
	"math/rand"
	"slices"
	"testing"

	"triage/api"
	"triage/host"
)

func has(t *testing.T, h api.Host, subset []api.Pair, want bool) {
	t.Helper()
	if got := host.Has(h, subset); got != want {
		t.Errorf("Has(%#v, %#v) = %v", h, subset, got)
	}
}

// TestHasNone: P7.1: of none: yes.
func TestHasNone(t *testing.T) {
	for _, h := range []api.Host{made(), {}, {Meta: []api.Pair{}}} {
		has(t, h, nil, true)
		has(t, h, []api.Pair{}, true)
		has(t, h, pairs("no", "pair")[:0], true)
	}
}

// TestHas: P7.1: each pair stands in the Meta, in whatever order and however often it is asked.
func TestHas(t *testing.T) {
	for _, x := range []struct {
		subset []api.Pair
		want   bool
	}{
		{pairs("canary", "no"), true},
		{pairs("stage", "b.1"), true},
		{pairs("tier", "2"), true},
		{pairs("canary", "no", "tier", "2"), true},
		{pairs("tier", "2", "canary", "no"), true},
		{pairs("canary", "no", "stage", "b.1", "tier", "2"), true},
		{pairs("tier", "2", "stage", "b.1", "canary", "no"), true},
		{pairs("tier", "2", "tier", "2"), true},
		{pairs("canary", "no", "canary", "no", "canary", "no", "canary", "no"), true},
		{pairs("canary", "yes"), false},
		{pairs("canary", "n"), false},
		{pairs("canary", "no."), false},
		{pairs("canary", ""), false},
		{pairs("canary", "2"), false},
		{pairs("tier", "no"), false},
		{pairs("no", "canary"), false},
		{pairs("canar", "yno"), false},
		{pairs("canaryno", ""), false},
		{pairs("", "no"), false},
		{pairs("", ""), false},
		{pairs("a", "b"), false},
		{pairs("zone", "2"), false},
		{pairs("tier", "2", "tier", "3"), false},
		{pairs("tier", "3", "tier", "2"), false},
		{pairs("lacks", "x", "stage", "b.1", "tier", "2"), false},
		{pairs("stage", "b.1", "lacks", "x", "tier", "2"), false},
		{pairs("stage", "b.1", "tier", "2", "lacks", "x"), false},
		{pairs("canary", "no", "stage", "b.1", "tier", "2", "lacks", "x"), false},
	} {
		has(t, made(), x.subset, x.want)
		has(t, api.Host{Meta: made().Meta}, x.subset, x.want)
		has(t, api.Host{}, x.subset, false)
	}
}

// TestHasAnyMeta: also of a host or a subset that may not be, it is told what stands there.
func TestHasAnyMeta(t *testing.T) {
	h := api.Host{Meta: pairs("b", "1", "a", "1", "a", "2", "", "", "A", "\xff", "a", "3")}
	for _, p := range h.Meta {
		has(t, h, []api.Pair{p}, true)
		has(t, h, []api.Pair{p, {Name: "a", Val: "4"}}, false)
	}
	has(t, h, h.Meta, true)
	has(t, h, pairs("a", "3", "a", "1", "a", "2"), true)
	has(t, h, pairs("A", "\xfe"), false)
	many := api.Host{Meta: risingPairs(600)}
	has(t, many, risingPairs(600), true)
	has(t, many, risingPairs(601), false)
	has(t, api.Host{Meta: risingPairs(599)}, risingPairs(600), false)
}

// TestHasBehind: R2: what lies behind the length is not read.
func TestHasBehind(t *testing.T) {
	h := changed(func(h *api.Host) { h.Meta = h.Meta[:1] })
	has(t, h, pairs("canary", "no"), true)
	has(t, h, pairs("stage", "b.1"), false)
	has(t, h, pairs("canary", "no", "lacks", "x")[:1], true)
	h.Meta = h.Meta[:0]
	has(t, h, pairs("canary", "no"), false)
}

// parts tells each part of l: every choice of its pairs.
func parts(l []api.Pair) [][]api.Pair {
	all := [][]api.Pair{nil}
	for _, p := range l {
		for _, part := range all {
			all = append(all, append(slices.Clone(part), p))
		}
	}
	return all
}

// TestHasParts: P7.2: who has a subset has each part of it; and who has each pair by itself has the subset.
func TestHasParts(t *testing.T) {
	r := rand.New(rand.NewSource(72))
	yes, no := 0, 0
	for range 20000 {
		h := api.Host{Meta: fewPairs(r, 1+r.Intn(6))}
		subset := fewPairs(r, r.Intn(5))
		whole, each := host.Has(h, subset), true
		for _, p := range subset {
			each = each && host.Has(h, []api.Pair{p})
		}
		if whole != each {
			t.Fatalf("Has(%#v, %#v) = %v, but of each pair %v", h.Meta, subset, whole, each)
		}
		if !whole {
			no++
			continue
		}
		yes++
		for _, part := range parts(subset) {
			has(t, h, part, true)
		}
	}
	if yes < 1000 || no < 1000 {
		t.Errorf("%d have it, %d have not: the draw asks too little", yes, no)
	}
}

func fewPairs(r *rand.Rand, n int) []api.Pair {
	var l []api.Pair
	for range n {
		l = append(l, api.Pair{Name: []string{"a", "b", "c"}[r.Intn(3)], Val: []string{"1", "2"}[r.Intn(2)]})
	}
	return l
}

// TestHasDrawn: held against a plain count.
func TestHasDrawn(t *testing.T) {
	r := rand.New(rand.NewSource(73))
	for range 50000 {
		h := api.Host{Meta: fewPairs(r, r.Intn(7))}
		subset := fewPairs(r, r.Intn(4))
		found := 0
		for _, p := range subset {
			for _, q := range h.Meta {
				if p.Name == q.Name && p.Val == q.Val {
					found++
					break
				}
			}
		}
		has(t, h, subset, found == len(subset))
	}
}

// TestNothingChanged: R2: no call changes what is handed in, nor what lies behind it.
func TestNothingChanged(t *testing.T) {
	rows := [][]api.Pair{
		nil, made().Meta, pairs("b", "1", "a", "1"), pairs("a", "1", "a", "1"), pairs("", "-", "A", "\xff"), risingPairs(7),
	}
	for _, row := range rows {
		for _, subset := range rows {
			kept, keptSubset := slices.Clone(row), slices.Clone(subset)
			for n := range len(row) + 1 {
				h := changed(func(h *api.Host) { h.Meta = row[:n] })
				host.May(h)
				host.Same(h, changed(func(h *api.Host) { h.Meta = subset }))
				host.Copy(h)
				host.Has(h, subset)
				host.Has(h, subset[:len(subset)/2])
				host.MaySubset(row[:n])
			}
			if !slices.Equal(row, kept) || !slices.Equal(subset, keptSubset) {
				t.Fatalf("changed: %#v, %#v", row, subset)
			}
		}
	}
}
