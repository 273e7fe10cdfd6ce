package spread_test

import (
	"slices"
	"sync"
	"testing"

	"triage/api"
	"triage/spread"
)

// TestBehind: R2: what lies behind a list's length is neither read nor written.
func TestBehind(t *testing.T) {
	rates := []int{9000, 9000, 9000, 1000, -7, 0, 20000}
	tellsFar(t, rates[:4], 1000, "...f")
	tellsFar(t, rates[:3], 1000, "...")
	tellsFar(t, rates[:0], 1000, "")
	if !slices.Equal(rates, []int{9000, 9000, 9000, 1000, -7, 0, 20000}) {
		t.Error(rates)
	}
	l := []api.Rated{rated(3, 10, 10), rated(1, 0, 10), rated(2, 10, 10), rated(1, 0, 10), rated(8, 9, 1)}
	was := slices.Clone(l)
	tellsBad(t, asks(3, 1000, 50), l[:3], 1)
	tellsBad(t, asks(3, 1000, 50), l[:2], 1)
	tellsBad(t, asks(3, 1000, 50), l[:1])
	if !slices.Equal(l, was) {
		t.Error(l)
	}
}

// TestNewMemory: R2: each answer is the caller's own.
func TestNewMemory(t *testing.T) {
	rates, l, c := []int{9000, 9000, 9000, 1000}, []api.Rated{rated(3, 10, 10), rated(1, 0, 10), rated(2, 10, 10)}, asks(3, 1000, 50)
	far, bad := spread.Far(rates, 1000), spread.Bad(c, l)
	for i := range far {
		far[i] = !far[i]
	}
	bad[0] = 99
	tellsFar(t, rates, 1000, "...f")
	tellsBad(t, c, l, 1)
}

// TestManyAsk: R6: what one asks says nothing about what another is told.
func TestManyAsk(t *testing.T) {
	var all sync.WaitGroup
	rates := join(some(49, 9000), some(1, 1000))
	l := []api.Rated{rated(3, 10, 10), rated(1, 0, 10), rated(2, 10, 10), rated(4, 10, 10), rated(5, 0, 10)}
	for n := 1; n <= 8; n++ {
		all.Go(func() {
			for range 200 {
				if got := spread.Far(rates, n*999); len(got) != 50 || got[49] != (n <= 7) {
					t.Errorf("factor %d: %s", n*999, letters(got))
				}
				want := []int{1, 5}
				if n > 5 {
					want = nil
				}
				if got := spread.Bad(asks(n, 1000, 0), l); !slices.Equal(got, want) {
					t.Errorf("hosts %d: %v", n, got)
				}
			}
		})
	}
	all.Wait()
}

// TestExample: the chapter's example.
func TestExample(t *testing.T) {
	tellsFar(t, []int{9000, 9000, 9000, 1000}, 1000, "...f")
	tellsBad(t, asks(4, 1000, 0), []api.Rated{rated(1, 90, 100), rated(2, 90, 100), rated(3, 90, 100), rated(4, 10, 100)}, 4)
}
