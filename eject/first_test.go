package eject_test

import (
	"cmp"
	"math/rand"
	"slices"
	"testing"

	"triage/api"
	"triage/eject"
)

// timer is one that goes off then; its kind does not count.
func timer(at, id int) api.Timer { return api.Timer{At: at, Kind: api.TBack, Id: id} }

// tellsFirst asks who is first; what was handed in stays.
func tellsFirst(t *testing.T, l []api.Timer, k int, want ...int) {
	t.Helper()
	was := slices.Clone(l)
	if got := eject.First(l, k); !slices.Equal(got, want) {
		t.Errorf("First(%v, %d) = %v; want %v", was, k, got, want)
	}
	if !slices.Equal(l, was) {
		t.Errorf("First changed %v to %v", was, l)
	}
}

// tellsPieces asks for any number of the first, where all of them are told in that order.
func tellsPieces(t *testing.T, l []api.Timer, all ...int) {
	t.Helper()
	for k := range len(all) + 1 {
		tellsFirst(t, l, k, all[:k]...)
	}
	for _, k := range []int{len(l), len(l) + 1, len(l) + 2, 1000, 1 << 32, maxTime, greatest - 1, greatest} {
		tellsFirst(t, l, k, all...)
	}
	for _, k := range []int{0, -1, -2, -len(l), -1000, -1 << 32, -maxTime, least + 1, least} {
		tellsFirst(t, l, k)
	}
}

// TestFirstRows: P14.3: by rows, with any k.
func TestFirstRows(t *testing.T) {
	tellsPieces(t, nil)
	tellsPieces(t, []api.Timer{})
	tellsPieces(t, []api.Timer{timer(5, 7)}, 7)
	tellsPieces(t, []api.Timer{timer(0, 0)}, 0)
	tellsPieces(t, []api.Timer{timer(5, 7), timer(3, 9)}, 9, 7)
	tellsPieces(t, []api.Timer{timer(3, 9), timer(5, 7)}, 9, 7)
	tellsPieces(t, []api.Timer{timer(9, 1), timer(3, 8), timer(3, 2), timer(-5, 4), timer(maxTime, 3)}, 4, 2, 8, 1, 3)
	// Of one At in the order of their Ids.
	tellsPieces(t, []api.Timer{timer(4, 5), timer(4, 1), timer(4, 3), timer(4, 2), timer(4, 4)}, 1, 2, 3, 4, 5)
	tellsPieces(t, []api.Timer{timer(4, 0), timer(4, greatest), timer(4, -1), timer(4, least), timer(4, 1), timer(4, greatest-1), timer(4, least+1)}, least, least+1, -1, 0, 1, greatest-1, greatest)
	// A greater Id that goes off sooner is ahead.
	tellsPieces(t, []api.Timer{timer(2, greatest), timer(3, least), timer(1, 5)}, 5, greatest, least)
	// Any At.
	tellsPieces(t, []api.Timer{timer(greatest, 1), timer(least, 2), timer(0, 3), timer(-1, 4), timer(least+1, 5), timer(greatest-1, 6), timer(maxTime, 7), timer(maxTime+1, 8)}, 2, 5, 4, 3, 7, 8, 6, 1)
	// One At and Id several times: each is told.
	tellsPieces(t, []api.Timer{timer(4, 7), timer(4, 7), timer(4, 7)}, 7, 7, 7)
	tellsPieces(t, []api.Timer{timer(4, 7), timer(1, 9), timer(4, 7), timer(4, 2), timer(1, 9), timer(0, 7)}, 7, 9, 9, 2, 7, 7)
	// One Id at several times.
	tellsPieces(t, []api.Timer{timer(8, 3), timer(2, 3), timer(5, 4), timer(3, 3)}, 3, 3, 4, 3)
}

// TestFirstKind: P14.3: the kind of a timer does not count, any kind.
func TestFirstKind(t *testing.T) {
	l := []api.Timer{{At: 5, Kind: 1, Id: 4}, {At: 5, Kind: 9, Id: 2}, {At: 5, Kind: -3, Id: 3}, {At: 4, Kind: greatest, Id: 8}, {At: 6, Kind: least, Id: 1}, {At: 5, Kind: 0, Id: 1}, {At: 5, Kind: 2, Id: 2}}
	tellsPieces(t, l, 8, 1, 2, 2, 3, 4, 1)
}

// firstByPages takes the one that nobody stands ahead of, again and again.
func firstByPages(l []api.Timer, k int) []int {
	left := slices.Clone(l)
	var ids []int
	for ; k > 0 && len(left) > 0; k-- {
		at := 0
		for i, x := range left {
			if x.At < left[at].At || x.At == left[at].At && x.Id < left[at].Id {
				at = i
			}
		}
		ids = append(ids, left[at].Id)
		left = slices.Delete(left, at, at+1)
	}
	return ids
}

// TestFirstShort: P14.3: all rows of up to four timers of three times and three Ids.
func TestFirstShort(t *testing.T) {
	var all []api.Timer
	for at := range 3 {
		for id := range 3 {
			all = append(all, timer(at, id))
		}
	}
	rows := [][]api.Timer{nil}
	for range 4 {
		var next [][]api.Timer
		for _, row := range rows {
			for k := -1; k <= len(row)+1; k++ {
				tellsFirst(t, row, k, firstByPages(row, k)...)
			}
			for _, x := range all {
				next = append(next, append(slices.Clone(row), x))
			}
		}
		rows = next
	}
	for i, row := range rows {
		k := i % 6
		tellsFirst(t, row, k, firstByPages(row, k)...)
	}
}

// drawnTimers are so many, often of one At, often of one Id.
func drawnTimers(r *rand.Rand, n int) []api.Timer {
	l := make([]api.Timer, n)
	ats, ids := 1+r.Intn(2*n+1), 1+r.Intn(2*n+1)
	for i := range l {
		l[i] = api.Timer{At: r.Intn(ats) - ats/2, Kind: r.Intn(6), Id: r.Intn(ids) - ids/2}
		switch r.Intn(30) {
		case 0:
			l[i].At = []int{least, greatest, maxTime}[r.Intn(3)]
		case 1:
			l[i].Id = []int{least, greatest, api.MaxId}[r.Intn(3)]
		}
	}
	return l
}

// TestFirstDrawn: P14.3: drawn timers, with any k.
func TestFirstDrawn(t *testing.T) {
	r := rand.New(rand.NewSource(143))
	for range 3000 {
		n := r.Intn(100)
		l, k := drawnTimers(r, n), r.Intn(n+3)-1
		tellsFirst(t, l, k, firstByPages(l, k)...)
	}
}

// TestFirstLong: P14.3: many timers are put in order in a moment.
func TestFirstLong(t *testing.T) {
	const n = 300000
	l := make([]api.Timer, n)
	for i := range l {
		l[i] = timer(i*7919%n, -i)
	}
	want := slices.Clone(l)
	slices.SortFunc(want, func(x, y api.Timer) int { return cmp.Compare(x.At, y.At) })
	got := eject.First(l, n-1)
	if len(got) != n-1 {
		t.Fatalf("%d are told", len(got))
	}
	for i, id := range got {
		if id != want[i].Id {
			t.Fatalf("at %d: %d; want %d", i, id, want[i].Id)
		}
	}
}

// TestFirstAnyOrder: P14.3: in whatever order they stand they are told the same.
func TestFirstAnyOrder(t *testing.T) {
	r := rand.New(rand.NewSource(144))
	for range 1000 {
		l := drawnTimers(r, 1+r.Intn(50))
		k := r.Intn(len(l) + 2)
		want := eject.First(l, k)
		r.Shuffle(len(l), func(i, j int) { l[i], l[j] = l[j], l[i] })
		tellsFirst(t, l, k, want...)
	}
}

// TestFirstFewer: P14.3: fewer of them are the first ones of more.
func TestFirstFewer(t *testing.T) {
	r := rand.New(rand.NewSource(145))
	for range 300 {
		l := drawnTimers(r, r.Intn(60))
		all := eject.First(l, len(l))
		if len(all) != len(l) {
			t.Errorf("of %d all are %d", len(l), len(all))
		}
		tellsPieces(t, l, all...)
	}
}
