package eject_test

import (
	"slices"
	"sync"
	"testing"

	"triage/api"
	"triage/eject"
)

// TestBehind: R2: what lies behind a list's length is neither read nor written.
func TestBehind(t *testing.T) {
	whole := []api.Timer{timer(9, 1), timer(3, 8), timer(3, 2), timer(-5, 4), timer(0, 7), timer(1, 9)}
	was := slices.Clone(whole)
	tellsPieces(t, whole[:3], 2, 8, 1)
	tellsPieces(t, whole[:2], 8, 1)
	tellsPieces(t, whole[:1], 1)
	tellsPieces(t, whole[:0])
	tellsPieces(t, whole[1:3], 2, 8)
	if !slices.Equal(whole, was) {
		t.Error(whole)
	}
}

// TestNewMemory: R2: each answer is the caller's own, and fewer are no piece of more.
func TestNewMemory(t *testing.T) {
	l := []api.Timer{timer(1, 1), timer(2, 2), timer(3, 3)}
	all, two := eject.First(l, 3), eject.First(l, 2)
	for i := range all {
		all[i] = 99
	}
	two = append(two, 77)
	tellsFirst(t, l, 3, 1, 2, 3)
	if !slices.Equal(two, []int{1, 2, 77}) || !slices.Equal(all, []int{99, 99, 99}) {
		t.Errorf("%v and %v share memory", all, two)
	}
}

// TestManyAsk: R6: what one asks says nothing about what another is told.
func TestManyAsk(t *testing.T) {
	var all sync.WaitGroup
	l := []api.Timer{timer(9, 1), timer(3, 8), timer(3, 2), timer(-5, 4), timer(maxTime, 3)}
	order := []int{4, 2, 8, 1, 3}
	for n := range 6 {
		all.Go(func() {
			for range 200 {
				if got := eject.First(l, n); !slices.Equal(got, order[:min(n, 5)]) {
					t.Errorf("the first %d: %v", n, got)
				}
				if got := eject.Cap(part(10*n, false), 64); got != 64*n/10 {
					t.Errorf("%d percent: %d", 10*n, got)
				}
				if got := eject.Out(base(n+1), inside(0, 0, n), 7); got != outing(7, 7+(n+1)*(n+1), n+1) {
					t.Errorf("%d times: %+v", n, got)
				}
			}
		})
	}
	all.Wait()
}

// TestExample: the chapter's example.
func TestExample(t *testing.T) {
	c := base(3000)
	first := eject.Out(c, api.Outing{}, 40)
	if first != outing(40, 3040, 1) {
		t.Errorf("the first time: %+v", first)
	}
	second := eject.Out(c, eject.Back(first), 9000)
	if second != outing(9000, 15000, 2) || second.Until-second.From != 6000 {
		t.Errorf("the second time: %+v", second)
	}
}
