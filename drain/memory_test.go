package drain_test

import (
	"slices"
	"sync"
	"testing"

	"triage/api"
	"triage/drain"
)

// TestBehind: R2: what lies behind a Meta's length is neither read nor written, whether it drains already or not.
func TestBehind(t *testing.T) {
	whole := pairs("a", "1", "b", "2", "c", "3", "d", "4")
	was := slices.Clone(whole)
	for _, drains := range []bool{false, true} {
		for n := range len(whole) + 1 {
			s := changed(full(), func(s *api.Status) { s.Drains = drains })
			s.Host.Meta = whole[:n]
			got := drain.Begin(s, 10, 5)
			if !slices.Equal(got.Host.Meta, was[:n]) {
				t.Errorf("the first %d: %v", n, got.Host.Meta)
			}
			got.Host.Meta = append(got.Host.Meta, pairs("spoilt", "x")...)
			for i := range got.Host.Meta {
				got.Host.Meta[i].Val = "spoilt"
			}
			if !slices.Equal(whole, was) {
				t.Fatalf("the first %d: %v", n, whole)
			}
		}
	}
}

// TestNewMemory: R2: what is answered stays when what was handed in is written into afterwards, and two answers share nothing.
func TestNewMemory(t *testing.T) {
	for _, drains := range []bool{false, true} {
		s := changed(full(), func(s *api.Status) { s.Drains, s.Gone = drains, 15 })
		one, two := drain.Begin(s, 10, 5), drain.Begin(s, 10, 5)
		again := drain.Begin(one, 11, 6)
		s.Host.Meta[0].Val = "spoilt"
		one.Host.Meta[1].Val = "spoilt"
		want := changed(full(), func(s *api.Status) { s.Drains, s.Gone = true, 15 })
		if !drains {
			want = drained(15)
		}
		if !alike(two, want) || !alike(again, want) {
			t.Errorf("%+v and %+v; want %+v", two, again, want)
		}
		want.Host.Meta[1].Val = "spoilt"
		if !alike(one, want) {
			t.Errorf("%+v; want %+v", one, want)
		}
	}
}

// TestManyAsk: R6: what one asks says nothing about what another is told.
func TestManyAsk(t *testing.T) {
	var all sync.WaitGroup
	s := full()
	for n := range 6 {
		all.Go(func() {
			for range 200 {
				got := drain.Begin(s, n, 10*n)
				if !alike(got, drained(11*n)) {
					t.Errorf("at %d: %+v", n, got)
				}
				if drain.Over(got, 11*n-1) != (n == 0) || drain.Left(got, n) != 10*n {
					t.Errorf("at %d: over, or %d is left", n, drain.Left(got, n))
				}
			}
		})
	}
	all.Wait()
}

// TestExample: the chapter's example.
func TestExample(t *testing.T) {
	s := drain.Begin(api.Status{Active: 1}, 10, 5)
	if s.Gone != 15 || drain.Over(s, 14) || !drain.Over(s, 15) || drain.Left(s, 10) != 5 {
		t.Errorf("%+v", s)
	}
}
