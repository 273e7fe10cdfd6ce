package turn_test

import (
	"iter"
	"math"
	"math/big"
	"math/rand"
	"slices"
	"testing"

	"triage/turn"
)

const (
	least    = math.MinInt
	greatest = math.MaxInt
)

// firstOf tells at most n of what a row goes through.
func firstOf(n int, row iter.Seq[int]) []int {
	var l []int
	for x := range row {
		if len(l) == n {
			break
		}
		l = append(l, x)
	}
	return l
}

// drawn is the word "a draw" of the document, by numbers without a bound: Mod is never below 0.
func drawn(n, draw int) int {
	return int(new(big.Int).Mod(big.NewInt(int64(draw)), big.NewInt(int64(n))).Int64())
}

// round is P4.1's row of Turn: place k holds the draw and k, less n if that is beyond.
func round(n, draw int) []int {
	var l []int
	for k := 0; k < n; k++ {
		l = append(l, (drawn(n, draw)+k)%n)
	}
	return l
}

// TestTurnRow: P4.1: from, from + 1, .. n - 1, 0, .. from - 1.
func TestTurnRow(t *testing.T) {
	for _, x := range []struct {
		n, from int
		want    []int
	}{
		{1, 0, []int{0}},
		{2, 0, []int{0, 1}},
		{2, 1, []int{1, 0}},
		{5, 0, []int{0, 1, 2, 3, 4}},
		{5, 1, []int{1, 2, 3, 4, 0}},
		{5, 3, []int{3, 4, 0, 1, 2}},
		{5, 4, []int{4, 0, 1, 2, 3}},
	} {
		if got := slices.Collect(turn.Turn(x.n, x.from)); !slices.Equal(got, x.want) {
			t.Errorf("Turn(%d, %d): %v, want %v", x.n, x.from, got, x.want)
		}
	}
}

// TestTurnDraw: P4.1: from is a draw: below 0, and beyond n, it is one of 0 to n - 1 all the same.
func TestTurnDraw(t *testing.T) {
	for _, x := range []struct {
		n, from int
		want    []int
	}{
		{3, 3, []int{0, 1, 2}},
		{3, 4, []int{1, 2, 0}},
		{3, 8, []int{2, 0, 1}},
		{3, -1, []int{2, 0, 1}},
		{3, -2, []int{1, 2, 0}},
		{3, -3, []int{0, 1, 2}},
		{3, -4, []int{2, 0, 1}},
		{3, -300, []int{0, 1, 2}},
		{1, -1, []int{0}},
		{1, least, []int{0}},
		{1, greatest, []int{0}},
		{2, least, []int{0, 1}},
		{2, greatest, []int{1, 0}},
		{3, least, []int{1, 2, 0}},
		{3, least + 1, []int{2, 0, 1}},
		{3, greatest, []int{1, 2, 0}},
		{10, greatest, []int{7, 8, 9, 0, 1, 2, 3, 4, 5, 6}},
		{10, least, []int{2, 3, 4, 5, 6, 7, 8, 9, 0, 1}},
	} {
		if got := slices.Collect(turn.Turn(x.n, x.from)); !slices.Equal(got, x.want) {
			t.Errorf("Turn(%d, %d): %v, want %v", x.n, x.from, got, x.want)
		}
	}
}

// TestTurnNone: P4.1: n below 1: none, whatever the draw.
func TestTurnNone(t *testing.T) {
	for _, n := range []int{0, -1, -2, -3, least, least + 1} {
		for _, from := range []int{0, 1, -1, 5, -5, n, least, greatest} {
			for x := range turn.Turn(n, from) {
				t.Fatalf("Turn(%d, %d) has %d", n, from, x)
			}
		}
	}
}

// TestTurnGreat: P4.1, R1: of the greatest n the draw is taken, and the row begun, without a sum that goes round.
func TestTurnGreat(t *testing.T) {
	for _, x := range []struct {
		n, from int
		want    []int
	}{
		{greatest, 0, []int{0, 1, 2}},
		{greatest, greatest, []int{0, 1, 2}},
		{greatest, greatest - 1, []int{greatest - 1, 0, 1}},
		{greatest, greatest - 2, []int{greatest - 2, greatest - 1, 0}},
		{greatest, -1, []int{greatest - 1, 0, 1}},
		{greatest, least, []int{greatest - 1, 0, 1}},
		{greatest, least + 1, []int{0, 1, 2}},
		{greatest, least + 2, []int{1, 2, 3}},
		{greatest - 1, least, []int{greatest - 3, greatest - 2, 0}},
		{1 << 62, least, []int{0, 1, 2}},
		{1 << 62, greatest, []int{1<<62 - 1, 0, 1}},
	} {
		if got := firstOf(3, turn.Turn(x.n, x.from)); !slices.Equal(got, x.want) {
			t.Errorf("Turn(%d, %d): %v, want %v", x.n, x.from, got, x.want)
		}
	}
}

// TestTurnAll: P4.1 and P4.3 for every small n and the draws about it: the row told by its places, and each number once.
func TestTurnAll(t *testing.T) {
	for n := -3; n <= 12; n++ {
		for from := -40; from <= 40; from++ {
			got := slices.Collect(turn.Turn(n, from))
			if !slices.Equal(got, round(n, from)) {
				t.Errorf("Turn(%d, %d): %v", n, from, got)
			}
			eachOnce(t, n, got)
		}
	}
}

// TestTurnAnyDraw: P4.1 and P4.3 for draws from the whole width.
func TestTurnAnyDraw(t *testing.T) {
	r := rand.New(rand.NewSource(4))
	for range 2000 {
		n, from := 1+r.Intn(70), int(r.Uint64())
		got := slices.Collect(turn.Turn(n, from))
		if !slices.Equal(got, round(n, from)) {
			t.Errorf("Turn(%d, %d): %v", n, from, got)
		}
		eachOnce(t, n, got)
	}
}

// eachOnce is P4.3: of n numbers each is there once, and no other.
func eachOnce(t *testing.T, n int, row []int) {
	t.Helper()
	seen := map[int]int{}
	for _, x := range row {
		seen[x]++
	}
	for i := range max(n, 0) {
		if seen[i] != 1 {
			t.Errorf("of %d, %d is there %d times: %v", n, i, seen[i], row)
		}
	}
	if len(row) != max(n, 0) {
		t.Errorf("of %d there are %d: %v", n, len(row), row)
	}
}

// TestTurnOnceEach: P4.3 by itself, of a long row from its beginning, middle and end.
func TestTurnOnceEach(t *testing.T) {
	const n = 5000
	for _, from := range []int{0, 1, n / 2, n - 1, n, -1, least, greatest} {
		eachOnce(t, n, slices.Collect(turn.Turn(n, from)))
	}
}
