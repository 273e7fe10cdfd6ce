package drain_test

import (
	"math/rand"
	"testing"

	"triage/api"
	"triage/drain"
)

// fullWith is full with so many open tickets.
func fullWith(active int) api.Status {
	return changed(full(), func(s *api.Status) { s.Active = active })
}

// TestWithoutTickets: P15.2: who begins to drain without open tickets is over at once, how long soever it might stay.
func TestWithoutTickets(t *testing.T) {
	for _, now := range edges() {
		for _, span := range edges() {
			for _, active := range []int{0, -1, -maxTime, least} {
				if s := drain.Begin(fullWith(active), now, span); !drain.Over(s, now) {
					t.Errorf("Active %d, at %d, %d to go: not over at once", active, now, span)
				}
			}
		}
	}
}

// TestWithTickets: P15.2: who begins with some is over at its time, and not before it.
func TestWithTickets(t *testing.T) {
	for _, now := range edges() {
		for _, span := range edges() {
			for _, active := range []int{1, 2, maxTime, greatest} {
				s, end := drain.Begin(fullWith(active), now, span), pagesGone(now, span)
				if !drain.Over(s, end) || drain.Left(s, end) != 0 || !drain.Over(s, end+1) || !drain.Over(s, greatest) {
					t.Errorf("Active %d, at %d, %d to go: not over at its time", active, now, span)
				}
				if end > 0 && (drain.Over(s, end-1) || drain.Over(s, 0) || drain.Left(s, end-1) != 1 || drain.Left(s, 0) != end) {
					t.Errorf("Active %d, at %d, %d to go: over before its time", active, now, span)
				}
				if over := end == max(0, min(now, maxTime)); drain.Over(s, now) != over {
					t.Errorf("Active %d, at %d, %d to go: over at once: %v", active, now, span, !over)
				}
			}
		}
	}
}

// TestLeftFalls: P15.1, P15.2: what is left falls by one from time to time, is 0 at the end, and stays so; it ends just when nothing is left.
func TestLeftFalls(t *testing.T) {
	for _, from := range []int{0, 1, 40, maxTime - 200, maxTime - 90, maxTime - 1, maxTime} {
		for span := range 130 {
			s := drain.Begin(fullWith(1), from, span)
			left := min(span, maxTime-from)
			for at := from; at < from+140; at++ {
				if got := drain.Left(s, at); got != left {
					t.Fatalf("from %d, %d to go: %d is left at %d; want %d", from, span, got, at, left)
				}
				if got := drain.Over(s, at); got != (left == 0) {
					t.Fatalf("from %d, %d to go: over at %d: %v", from, span, at, got)
				}
				left = max(left-1, 0)
			}
		}
	}
}

// walk is one that leaves while its tickets are closed one by one, and others ask again that it may begin.
func walk(t *testing.T, r *rand.Rand) (early bool) {
	t.Helper()
	now, span, active := r.Intn(100), r.Intn(60), 1+r.Intn(12)
	end := now + span
	first := drain.Begin(fullWith(active), now, span)
	s := first
	for step := 0; ; step++ {
		over := drain.Over(s, now)
		if over != (active == 0 || now >= end) {
			t.Fatalf("at %d of %d, with %d open: over: %v", now, end, active, over)
		}
		if left := drain.Left(s, now); left != max(end-now, 0) {
			t.Fatalf("at %d of %d: %d is left", now, end, left)
		}
		if over {
			return now < end
		}
		switch r.Intn(3) {
		case 0:
			now += r.Intn(9)
		case 1:
			active--
			s.Active = active
		case 2:
			s = drain.Begin(s, now, r.Intn(1000))
		}
		want := changed(first, func(s *api.Status) { s.Active = active })
		if !alike(s, want) {
			t.Fatalf("step %d: %+v; want %+v", step, s, want)
		}
	}
}

// TestWalks: P15.2: through long ways: it goes when its last ticket is closed, or its time is up, whichever is first; begun again nothing changes.
func TestWalks(t *testing.T) {
	r := rand.New(rand.NewSource(153))
	early, late := 0, 0
	for range 4000 {
		if walk(t, r) {
			early++
		} else {
			late++
		}
	}
	if early < 500 || late < 500 {
		t.Errorf("%d went before their time, %d at it: too little is asked", early, late)
	}
}
