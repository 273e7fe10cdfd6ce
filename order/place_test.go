package order_test

import (
	"math/rand"
	"slices"
	"testing"

	"triage/order"
)

// P3.2: Find by rows: nothing, ahead of all, behind all, between, the first of several that are the same.
func TestFindRows(t *testing.T) {
	l := keys(1, 1, 1, 3, 1, 3, 4, 0)
	far := keys(least, least, least, greatest, 0, 0, greatest, least, greatest, greatest)
	for _, x := range []struct {
		l    []order.Key
		k    order.Key
		want int
		ok   bool
	}{
		{nil, order.Key{}, 0, false}, {keys(), order.Key{A: 1, B: 1}, 0, false},
		{keys(5, 5), order.Key{A: 5, B: 4}, 0, false}, {keys(5, 5), order.Key{A: 5, B: 5}, 0, true}, {keys(5, 5), order.Key{A: 5, B: 6}, 1, false},
		{l, order.Key{A: 0, B: 9}, 0, false}, {l, order.Key{A: 1, B: 0}, 0, false}, {l, order.Key{A: 1, B: 1}, 0, true},
		{l, order.Key{A: 1, B: 2}, 1, false}, {l, order.Key{A: 1, B: 3}, 1, true}, {l, order.Key{A: 1, B: 4}, 3, false},
		{l, order.Key{A: 3, B: 0}, 3, false}, {l, order.Key{A: 4, B: 0}, 3, true}, {l, order.Key{A: 4, B: 1}, 4, false}, {l, order.Key{A: 9, B: 0}, 4, false},
		{keys(7, 7, 7, 7, 7, 7, 7, 7, 7, 7), order.Key{A: 7, B: 7}, 0, true}, {keys(7, 7, 7, 7, 7, 7, 7, 7, 7, 7), order.Key{A: 7, B: 8}, 5, false},
		{far, order.Key{A: least, B: least}, 0, true}, {far, order.Key{A: least, B: 0}, 1, false}, {far, order.Key{A: least, B: greatest}, 1, true},
		{far, order.Key{A: greatest, B: least}, 3, true}, {far, order.Key{A: greatest, B: greatest - 1}, 4, false}, {far, order.Key{A: greatest, B: greatest}, 4, true},
		{far[:4], order.Key{A: greatest, B: greatest}, 4, false}, {far[1:], order.Key{A: least, B: least}, 0, false},
	} {
		if got, ok := order.Find(x.l, x.k); got != x.want || ok != x.ok {
			t.Errorf("Find(%v, %v) = %d, %v, want %d, %v", x.l, x.k, got, ok, x.want, x.ok)
		}
	}
}

// P3.2: Find in many sorted rows: how many are Less, counted one by one, and if the next one is the key.
func TestFindManyRows(t *testing.T) {
	ask := keys(-3, 0, -2, -3, -2, -2, -2, 2, -1, 0, 0, 0, 0, 1, 1, 1, 1, 2, 2, 0, least, 0, least, least, greatest, greatest, greatest, 0)
	for _, row := range someRows(40) {
		l := slowly(row)
		for _, k := range append(slices.Clone(ask), l...) {
			want := 0
			for _, e := range l {
				if ahead(e, k) {
					want++
				}
			}
			there := counted(l)[k] > 0
			if got, ok := order.Find(l, k); got != want || ok != there {
				t.Errorf("Find(%v, %v) = %d, %v, want %d, %v", l, k, got, ok, want, there)
			}
		}
	}
}

// P3.2: of a row that is not sorted Find tells a place from 0 to how many there are, and of that place if the key is there.
func TestFindNotSorted(t *testing.T) {
	rows := append(someRows(40), keys(9, 9, 1, 1), keys(3, 0, 2, 0, 1, 0), keys(greatest, 0, least, 0, greatest, 0))
	for _, l := range rows {
		for _, k := range append(keys(0, 0, 1, 1, least, least, greatest, greatest, -5, 5), l...) {
			got, ok := order.Find(l, k)
			if got < 0 || got > len(l) {
				t.Errorf("Find(%v, %v) = %d, %v", l, k, got, ok)
				continue
			}
			if next := got < len(l) && l[got] == k; ok != next {
				t.Errorf("Find(%v, %v) = %d, %v, but the next one says %v", l, k, got, ok, next)
			}
		}
	}
}

// P3.2: Merge by rows: with nothing, one behind the other, in between, the same keys in both.
func TestMergeRows(t *testing.T) {
	for _, x := range []struct{ l, m, want []order.Key }{
		{nil, nil, nil}, {keys(), nil, nil}, {keys(), keys(), nil},
		{keys(5, 5), nil, keys(5, 5)}, {nil, keys(5, 5), keys(5, 5)}, {keys(1, 1, 2, 2), keys(), keys(1, 1, 2, 2)},
		{keys(1, 1, 2, 2), keys(3, 3, 4, 4), keys(1, 1, 2, 2, 3, 3, 4, 4)}, {keys(3, 3, 4, 4), keys(1, 1, 2, 2), keys(1, 1, 2, 2, 3, 3, 4, 4)},
		{keys(1, 1, 3, 3), keys(2, 2, 4, 4), keys(1, 1, 2, 2, 3, 3, 4, 4)},
		{keys(1, 1, 3, 3), keys(1, 0, 1, 1, 9, 9), keys(1, 0, 1, 1, 1, 1, 3, 3, 9, 9)},
		{keys(7, 2), keys(7, 1, 7, 3), keys(7, 1, 7, 2, 7, 3)},
		{keys(1, 1, 1, 1), keys(1, 1), keys(1, 1, 1, 1, 1, 1)},
		{keys(least, least, greatest, greatest), keys(least, greatest, greatest, least), keys(least, least, least, greatest, greatest, least, greatest, greatest)},
	} {
		if got := order.Merge(x.l, x.m); !slices.Equal(got, x.want) {
			t.Errorf("Merge(%v, %v) = %v, want %v", x.l, x.m, got, x.want)
		}
	}
}

// P3.2: Merge of many sorted rows: all of both, sorted.
func TestMergeManyRows(t *testing.T) {
	rows := someRows(16)
	for i := range rows {
		rows[i] = slowly(rows[i])
	}
	for _, l := range rows {
		for _, m := range rows {
			got := order.Merge(l, m)
			if !sorted(got) || !sameKeys(got, l, m) {
				t.Errorf("Merge(%v, %v) = %v", l, m, got)
			}
		}
	}
}

// P3.2: of rows that are not sorted Merge tells all of both, whichever of them is not.
func TestMergeNotSorted(t *testing.T) {
	rows := append(someRows(16), keys(9, 9, 1, 1), keys(5, 5, 2, 2))
	for _, l := range rows {
		for _, m := range rows {
			for _, got := range [][]order.Key{order.Merge(l, m), order.Merge(slowly(l), m)} {
				if !sameKeys(got, l, m) {
					t.Errorf("Merge(%v, %v) = %v", l, m, got)
				}
			}
		}
	}
}

// P3.3: however the same keys stand, their sorted row is one and the same.
func TestSortedRowIsTheOnlyOne(t *testing.T) {
	r := rand.New(rand.NewSource(5))
	for _, l := range someRows(40) {
		want := order.Sort(l)
		for range 5 {
			other := slices.Clone(l)
			r.Shuffle(len(other), func(i, j int) { other[i], other[j] = other[j], other[i] })
			if got := order.Sort(other); !slices.Equal(got, want) {
				t.Errorf("Sort(%v) = %v, Sort(%v) = %v", l, want, other, got)
			}
		}
		if got := order.Sort(want); !slices.Equal(got, want) {
			t.Errorf("sorted twice: %v, then %v", want, got)
		}
	}
}

// P3.3: so it is the same row, whether the keys are sorted at once or merged out of sorted pieces, either one first.
func TestMergedRowIsTheOnlyOne(t *testing.T) {
	for _, l := range someRows(24) {
		want := order.Sort(l)
		for cut := 0; cut <= len(l); cut++ {
			a, b := order.Sort(l[:cut]), order.Sort(l[cut:])
			if ab, ba := order.Merge(a, b), order.Merge(b, a); !slices.Equal(ab, want) || !slices.Equal(ba, want) {
				t.Errorf("%v cut at %d: %v and %v, want %v", l, cut, ab, ba, want)
			}
		}
	}
}
