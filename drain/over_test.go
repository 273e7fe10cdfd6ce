package drain_test

import (
	"math/rand"
	"slices"
	"testing"

	"triage/api"
	"triage/drain"
)

// leaving is one that drains.
func leaving(gone, active int) api.Status {
	return api.Status{Drains: true, Gone: gone, Active: active}
}

// tellsEnd asks whether s is over at now, and what is left of it; what was handed in stays.
func tellsEnd(t *testing.T, s api.Status, now int, over bool, left int) {
	t.Helper()
	was := s
	was.Host.Meta = slices.Clone(s.Host.Meta)
	if got := drain.Over(s, now); got != over {
		t.Errorf("Over(%+v, %d) = %v; want %v", was, now, got, over)
	}
	if got := drain.Left(s, now); got != left {
		t.Errorf("Left(%+v, %d) = %d; want %d", was, now, got, left)
	}
	if !alike(s, was) {
		t.Errorf("at %d: %+v was changed to %+v", now, was, s)
	}
}

// TestEndRows: P15.1: with open tickets, by now and Gone.
func TestEndRows(t *testing.T) {
	for _, x := range []struct {
		gone, now int
		over      bool
		left      int
	}{
		// One before Gone, at it, one behind it.
		{15, 14, false, 1}, {15, 15, true, 0}, {15, 16, true, 0}, {15, 10, false, 5}, {15, 0, false, 15}, {15, 1000, true, 0},
		{1, 0, false, 1}, {1, 1, true, 0}, {1, 2, true, 0}, {0, 0, true, 0}, {0, 1, true, 0},
		{maxTime, maxTime - 1, false, 1}, {maxTime, maxTime, true, 0}, {maxTime, 0, false, maxTime}, {maxTime, 1, false, maxTime - 1}, {maxTime - 1, maxTime - 2, false, 1}, {maxTime - 1, maxTime - 1, true, 0}, {maxTime - 1, maxTime, true, 0}, {0, maxTime, true, 0}, {15, maxTime, true, 0},
		// A now that is no time.
		{15, -1, false, 15}, {15, -15, false, 15}, {15, least, false, 15}, {15, least + 1, false, 15}, {1, -1, false, 1}, {0, -1, true, 0}, {0, least, true, 0}, {maxTime, -1, false, maxTime}, {maxTime, least, false, maxTime},
		{15, maxTime + 1, true, 0}, {15, greatest, true, 0}, {maxTime, maxTime + 1, true, 0}, {maxTime, greatest, true, 0}, {maxTime - 1, greatest, true, 0},
		// A Gone that is no time.
		{-1, 0, true, 0}, {-1, 5, true, 0}, {least, 0, true, 0}, {least + 1, 3, true, 0}, {least, maxTime, true, 0}, {-5, -9, true, 0}, {-1, -1, true, 0}, {-1, -2, true, 0}, {-1, least, true, 0}, {least, least, true, 0}, {least, greatest, true, 0},
		{maxTime + 1, 0, false, maxTime}, {maxTime + 1, 1, false, maxTime - 1}, {maxTime + 1, maxTime - 1, false, 1}, {maxTime + 1, maxTime, true, 0}, {maxTime + 2, maxTime + 1, true, 0}, {greatest, 0, false, maxTime}, {greatest, -1, false, maxTime}, {greatest, least, false, maxTime}, {greatest, 5, false, maxTime - 5}, {greatest, maxTime - 1, false, 1}, {greatest, maxTime, true, 0}, {greatest, maxTime + 1, true, 0}, {greatest, greatest, true, 0}, {greatest, greatest - 1, true, 0}, {greatest - 1, greatest, true, 0},
	} {
		for _, active := range []int{1, 2, 3, 2000, maxTime, greatest - 1, greatest} {
			tellsEnd(t, leaving(x.gone, active), x.now, x.over, x.left)
		}
		// Without one it is over; what is left is so nevertheless.
		for _, active := range []int{0, -1, -2, -maxTime, least + 1, least} {
			tellsEnd(t, leaving(x.gone, active), x.now, true, x.left)
		}
	}
}

// TestEndOfOneThatStays: P15.1: who does not drain is never over, and nothing is left of it.
func TestEndOfOneThatStays(t *testing.T) {
	for _, gone := range edges() {
		for _, now := range edges() {
			for _, active := range edges() {
				tellsEnd(t, api.Status{Gone: gone, Active: active}, now, false, 0)
			}
			tellsEnd(t, changed(full(), func(s *api.Status) { s.Gone = gone }), now, false, 0)
		}
	}
}

// TestEndHeedsNothingElse: P15.1: beside Drains, Active and Gone nothing of the status counts.
func TestEndHeedsNothingElse(t *testing.T) {
	for _, n := range edges() {
		s := changed(full(), func(s *api.Status) {
			s.Drains, s.Gone = true, 15
			s.Errors, s.Since = n, n
			s.Bucket = api.Bucket{Ok: n, All: n}
			s.Outing = api.Outing{Out: n > 0, From: n, Until: n, Times: n}
			s.Probing = api.Probing{Up: n > 0, Run: n, Forced: n, Wait: n}
			s.Host.Id, s.Host.Prio, s.Host.Weight = n, n, n
		})
		tellsEnd(t, s, 14, false, 1)
		tellsEnd(t, s, 15, true, 0)
		s.Active = 0
		tellsEnd(t, s, 14, true, 1)
		s.Drains, s.Active = false, 3
		tellsEnd(t, s, 15, false, 0)
	}
}

// pagesEnd is whether s is over, and what is left, in numbers that have no end.
func pagesEnd(s api.Status, now int) (bool, int) {
	if !s.Drains {
		return false, 0
	}
	late := ends(now).Cmp(ends(s.Gone)) >= 0
	left := ends(s.Gone)
	left.Sub(left, ends(now))
	if left.Sign() < 0 {
		left.SetInt64(0)
	}
	return s.Active <= 0 || late, int(left.Int64())
}

// TestEndDrawn: P15.1: of any, with every number drawn.
func TestEndDrawn(t *testing.T) {
	r := rand.New(rand.NewSource(152))
	overs, waits, lates := 0, 0, 0
	for range 60000 {
		s, now := drawnStatus(r), drawnNumber(r)
		if r.Intn(3) == 0 && s.Gone < greatest-3 && s.Gone > least+3 {
			now = s.Gone + r.Intn(5) - 2
		}
		over, left := pagesEnd(s, now)
		switch {
		case over && s.Active > 0:
			lates++
		case over:
			overs++
		case left > 0:
			waits++
		}
		tellsEnd(t, s, now, over, left)
		if t.Failed() {
			t.FailNow()
		}
	}
	if overs < 5000 || waits < 5000 || lates < 5000 {
		t.Errorf("%d without a ticket, %d that wait, %d whose time is up: too little is asked", overs, waits, lates)
	}
}
