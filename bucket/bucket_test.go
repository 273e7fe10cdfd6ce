package bucket_test

import (
	"math"
	"sync"
	"testing"

	"triage/api"
	"triage/bucket"
)

const (
	most     = 1000000000
	least    = math.MinInt
	greatest = math.MaxInt
)

// of is a bucket of so many ok ones of all.
func of(ok, all int) api.Bucket {
	return api.Bucket{Ok: ok, All: all}
}

// someCounts are those around each bound, and far from it.
func someCounts() []int {
	return []int{
		least, least + 1, -1 << 62, -most - 1, -most, -10000, -2, -1, 0, 1, 2, 3, 7, 99, 100, 101, 9999, 10000, 10001, 99999, 100000,
		most/2 - 1, most / 2, most/2 + 1, most - 2, most - 1, most, most + 1, most + 2, 1<<31 - 1, 1 << 31, 1 << 32, 1<<32 + 5, 1 << 62, greatest - 1, greatest,
	}
}

// someBuckets are all pairs of some counts: many may be, many may not.
func someBuckets() []api.Bucket {
	var l []api.Bucket
	for _, ok := range someCounts() {
		for _, all := range someCounts() {
			l = append(l, of(ok, all))
		}
	}
	return l
}

// spoiltBuckets are some that may not be.
func spoiltBuckets() []api.Bucket {
	return []api.Bucket{
		of(-1, 0), of(-1, 1), of(-1, 3), of(-1, most), of(-5, -5), of(-6, -5), of(-5, -6), of(0, -1), of(1, -1), of(least, 0), of(least, 3), of(least, most), of(least, least), of(0, least), of(3, least), of(greatest, least),
		of(1, 0), of(2, 1), of(4, 3), of(most, most-1), of(most+1, most), of(greatest, 0), of(greatest, 3), of(greatest, most),
		of(0, most+1), of(1, most+1), of(most, most+1), of(most+1, most+1), of(0, greatest), of(3, greatest), of(most, greatest), of(greatest, greatest), of(least, greatest), of(-1, most+1),
	}
}

// mayByPages is P12.1's first sentence told the other way round: by what is wrong.
func mayByPages(b api.Bucket) bool {
	switch {
	case b.Ok < 0, b.All < b.Ok, b.All > most:
		return false
	}
	return true
}

// TestMay: P12.1: by rows.
func TestMay(t *testing.T) {
	for _, x := range []struct {
		ok, all int
		want    bool
	}{
		{0, 0, true}, {0, 1, true}, {1, 1, true}, {0, 5, true}, {3, 5, true}, {5, 5, true}, {4, 5, true},
		// Ok below 0, and above All.
		{-1, 5, false}, {-2, 5, false}, {least, 5, false}, {6, 5, false}, {7, 5, false}, {greatest, 5, false},
		// All at 0.
		{-1, 0, false}, {1, 0, false}, {least, 0, false}, {greatest, 0, false},
		// All below 0.
		{0, -1, false}, {-1, -1, false}, {-2, -1, false}, {least, least, false}, {0, least, false}, {least, -1, false}, {-1, least, false},
		// All just below its most, at it and above it.
		{0, most - 1, true}, {most - 1, most - 1, true}, {most, most - 1, false},
		{0, most, true}, {1, most, true}, {most - 1, most, true}, {most, most, true}, {most + 1, most, false}, {-1, most, false},
		{0, most + 1, false}, {most, most + 1, false}, {most + 1, most + 1, false}, {-1, most + 1, false},
		{0, greatest, false}, {greatest, greatest, false}, {least, greatest, false}, {greatest, least, false},
	} {
		if got := bucket.May(of(x.ok, x.all)); got != x.want {
			t.Errorf("May(%d of %d) = %v", x.ok, x.all, got)
		}
	}
}

// TestMayAll: P12.1: pairs of counts of any size.
func TestMayAll(t *testing.T) {
	yes := 0
	for _, b := range someBuckets() {
		want := mayByPages(b)
		if got := bucket.May(b); got != want {
			t.Errorf("May(%d of %d) = %v", b.Ok, b.All, got)
		}
		if want {
			yes++
		}
	}
	if yes < 100 || yes > len(someBuckets())-100 {
		t.Errorf("%d of %d may be: they ask too little", yes, len(someBuckets()))
	}
	for _, b := range spoiltBuckets() {
		if bucket.May(b) {
			t.Errorf("May(%d of %d)", b.Ok, b.All)
		}
	}
}

// notes asks what b is behind one more; what was handed in stays.
func notes(t *testing.T, b api.Bucket, ok bool, want api.Bucket) {
	t.Helper()
	was := b
	if got := bucket.Note(b, ok); got != want {
		t.Errorf("Note(%d of %d, %v) = %d of %d; want %d of %d", was.Ok, was.All, ok, got.Ok, got.All, want.Ok, want.All)
	}
	if b != was {
		t.Errorf("Note changed %v to %v", was, b)
	}
}

// TestNote: P12.1: by rows.
func TestNote(t *testing.T) {
	for _, x := range []struct {
		b, yes, no api.Bucket
	}{
		{of(0, 0), of(1, 1), of(0, 1)},
		{of(0, 1), of(1, 2), of(0, 2)},
		{of(1, 1), of(2, 2), of(1, 2)},
		{of(1, 3), of(2, 4), of(1, 4)},
		{of(7, 10), of(8, 11), of(7, 11)},
		// Just below the most.
		{of(0, most-2), of(1, most-1), of(0, most-1)},
		{of(0, most-1), of(1, most), of(0, most)},
		{of(5, most-1), of(6, most), of(5, most)},
		{of(most-2, most-1), of(most-1, most), of(most-2, most)},
		{of(most-1, most-1), of(most, most), of(most-1, most)},
		// At the most: it stays.
		{of(0, most), of(0, most), of(0, most)},
		{of(1, most), of(1, most), of(1, most)},
		{of(most-1, most), of(most-1, most), of(most-1, most)},
		{of(most, most), of(most, most), of(most, most)},
	} {
		notes(t, x.b, true, x.yes)
		notes(t, x.b, false, x.no)
	}
}

// TestNoteSpoilt: P12.1: whoever may not be stays as it is.
func TestNoteSpoilt(t *testing.T) {
	for _, b := range spoiltBuckets() {
		notes(t, b, true, b)
		notes(t, b, false, b)
	}
}

// TestNoteAll: P12.1: pairs of counts of any size: All is one more, and those that are not ok are, if this one is not.
func TestNoteAll(t *testing.T) {
	for _, b := range someBuckets() {
		yes, no := of(b.Ok+1, b.All+1), of(b.Ok, b.All+1)
		if !mayByPages(b) || b.All > most-1 {
			yes, no = b, b
		}
		notes(t, b, true, yes)
		notes(t, b, false, no)
		if mayByPages(b) && !(bucket.May(bucket.Note(b, true)) && bucket.May(bucket.Note(b, false))) {
			t.Errorf("behind %v stands one that may not be", b)
		}
	}
}

// TestManyAsk: R6: what one asks says nothing about what another is told.
func TestManyAsk(t *testing.T) {
	var all sync.WaitGroup
	for n := 1; n <= 8; n++ {
		all.Go(func() {
			b := api.Bucket{}
			for i := range 2000 {
				b = bucket.Note(b, i%n == 0)
			}
			want := of((2000+n-1)/n, 2000)
			if b != want || bucket.Rate(b) != want.Ok*5 || !bucket.Enough(b, 2000) || bucket.Enough(b, 2001) || bucket.Failing(b, 1) == (n == 1) {
				t.Errorf("one of %d is ok: %v", n, b)
			}
		})
	}
	all.Wait()
}
