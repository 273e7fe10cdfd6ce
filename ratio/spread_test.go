package ratio_test

import (
	"math"
	"math/big"
	"slices"
	"testing"

	"triage/ratio"
)

// P1.2: totals that are shared, and what is left over.
func TestSpreadRows(t *testing.T) {
	for _, x := range []struct {
		total int
		parts []int
		want  []int
	}{
		{100, []int{1, 1, 1}, []int{34, 33, 33}},
		{101, []int{1, 1, 1}, []int{34, 34, 33}},
		{100, []int{0, 1, 0, 2}, []int{0, 34, 0, 66}},
		{5, []int{-7, 1, 0, 1, -1, 1}, []int{0, 2, 0, 2, 0, 1}},
		{10, []int{-5, 3, 7}, []int{0, 3, 7}},
		{10, []int{math.MinInt, 3, 7}, []int{0, 3, 7}},
		{3, []int{1, 1, 1, 1, 1}, []int{1, 1, 1, 0, 0}},
		{100, []int{1, 0, 999}, []int{1, 0, 99}},
		{100, []int{999, 0, 1}, []int{100, 0, 0}},
		{2, []int{2, 1, 1}, []int{2, 0, 0}},
		{0, []int{1, 2}, []int{0, 0}},
		{7, []int{5}, []int{7}},
		{1000000, []int{1}, []int{1000000}},
		{1000000, []int{1, 2}, []int{333334, 666666}},
		{100, []int{most}, []int{100}},
		{1000000, []int{most / 2, most / 2}, []int{500000, 500000}},
		{1000000, []int{most / 3, most / 3, most / 3}, []int{333334, 333333, 333333}},
		{1000000, []int{most / 2, -most, 0, math.MinInt}, nil},
		{1000000, []int{most / 4, -most, 0, math.MinInt}, []int{1000000, 0, 0, 0}},
	} {
		if got := ratio.Spread(x.total, x.parts); !slices.Equal(got, x.want) {
			t.Errorf("Spread(%d, %v) = %v; want %v", x.total, x.parts, got, x.want)
		}
	}
}

// P1.2: what may not be shared.
func TestSpreadNothing(t *testing.T) {
	for _, x := range []struct {
		total int
		parts []int
	}{
		{-1, []int{1}},
		{math.MinInt, []int{1}},
		{1000001, []int{1}},
		{math.MaxInt, []int{1}},
		{100, nil},
		{100, []int{}},
		{0, nil},
		{100, []int{0, 0}},
		{100, []int{-1, -2}},
		{100, []int{most + 1}},
		{100, []int{most, 1}},
		{100, []int{1, most/2 + 1}},
		{100, []int{1, 1, most/3 + 1}},
		{100, []int{most/2 + 1, -1}},
		{100, []int{math.MaxInt, math.MaxInt}},
	} {
		if got := ratio.Spread(x.total, x.parts); got != nil {
			t.Errorf("Spread(%d, %v) = %v; want nothing", x.total, x.parts, got)
		}
	}
}

// rows are all rows of up to four of these parts, of small and of great ones.
func rows() [][]int {
	all := [][]int{nil}
	for _, of := range [][]int{{-3, 0, 1, 2, 3, 7, 64}, {-1, 0, 1, 1<<32 + 1, most/4 - 1, most / 4}} {
		last := [][]int{nil}
		for range 4 {
			var longer [][]int
			for _, row := range last {
				for _, part := range of {
					longer = append(longer, append(slices.Clone(row), part))
				}
			}
			all = append(all, longer...)
			last = longer
		}
	}
	return all
}

// wantSpread reckons by wide numbers, and gives what is left over round by round.
func wantSpread(total int, parts []int) []int {
	sum := new(big.Int)
	for _, part := range parts {
		sum.Add(sum, bigOf(max(part, 0)))
	}
	if sum.Sign() == 0 {
		return nil
	}
	shares, left := make([]int, len(parts)), total
	for i, part := range parts {
		q := bigProduct(total, part)
		shares[i] = int(q.Quo(q, sum).Int64())
		left -= shares[i]
	}
	for left > 0 {
		for i, part := range parts {
			if part > 0 && left > 0 {
				shares[i]++
				left--
			}
		}
	}
	return shares
}

// P1.2: many rows, against wide numbers.
func TestSpreadMany(t *testing.T) {
	for _, total := range []int{0, 1, 2, 3, 5, 100, 9999, 1000000} {
		for _, parts := range rows() {
			want := wantSpread(total, parts)
			if got := ratio.Spread(total, parts); !slices.Equal(got, want) {
				t.Fatalf("Spread(%d, %v) = %v; want %v", total, parts, got, want)
			}
		}
	}
}

// P1.3: all is spread; nobody lacks a whole one of its share, nobody has more than one above it, and who has no part has nothing.
func TestSpreadIsAll(t *testing.T) {
	for _, total := range []int{0, 1, 2, 3, 5, 100, 9999, 1000000} {
		for _, parts := range rows() {
			sum := ratio.Sum(parts...)
			if sum == 0 {
				continue
			}
			shares := ratio.Spread(total, parts)
			if len(shares) != len(parts) || ratio.Sum(shares...) != total {
				t.Fatalf("Spread(%d, %v) = %v: that is not all", total, parts, shares)
			}
			for i, share := range shares {
				lacks := bigProduct(total, parts[i])
				lacks.Sub(lacks, bigProduct(share, sum))
				if lacks.Cmp(bigOf(sum)) >= 0 || lacks.Cmp(bigOf(-sum)) < 0 || share < 0 {
					t.Fatalf("Spread(%d, %v) = %v: place %d has not its share", total, parts, shares, i)
				}
				if parts[i] < 1 && share != 0 {
					t.Fatalf("Spread(%d, %v) = %v: place %d has no part", total, parts, shares, i)
				}
			}
		}
	}
}

// P1.3: a long row, most of it below 1.
func TestSpreadLong(t *testing.T) {
	parts := make([]int, 100000)
	for i := range parts {
		parts[i] = i%7 - 3
	}
	shares := ratio.Spread(999999, parts)
	if len(shares) != len(parts) || ratio.Sum(shares...) != 999999 {
		t.Fatal("a long row is not spread whole")
	}
	if want := wantSpread(999999, parts); !slices.Equal(shares, want) {
		t.Fatal("a long row is spread otherwise")
	}
}

// R2: what is handed in stays as it is, the answer is memory of its own, what lies behind the list's length is left alone.
func TestSpreadMemory(t *testing.T) {
	whole := []int{-5, 3, 7, most, most}
	parts := whole[:3]
	shares := ratio.Spread(10, parts)
	if !slices.Equal(shares, []int{0, 3, 7}) {
		t.Error("what lies behind the length was read:", shares)
	}
	for i := range shares {
		shares[i] = 99
	}
	if again := ratio.Spread(10, parts); !slices.Equal(again, []int{0, 3, 7}) {
		t.Error("the answer is shared:", again)
	}
	if ratio.Sum(parts...) != 10 || !slices.Equal(whole, []int{-5, 3, 7, most, most}) {
		t.Error("what was handed in was changed:", whole)
	}
}
