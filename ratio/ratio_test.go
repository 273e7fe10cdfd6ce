package ratio_test

import (
	"math"
	"math/big"
	"testing"

	"triage/api"
	"triage/ratio"
)

const most = api.MaxTime

// edges are the numbers at which a product, a quotient or a sum by hand is likely to be wrong.
func edges() []int {
	return []int{
		math.MinInt, math.MinInt + 1, -most, -1 << 32, -100, -2, -1,
		0, 1, 2, 3, 7, 10, 99, 100, 101, 9999, 1000000,
		1<<31 - 1, 1 << 31, 1<<32 - 1, 1 << 32, 1<<32 + 1,
		0x123456789abcdef, 1<<61 - 1, 1 << 61, most - 1, most, most + 1,
		math.MaxInt - 1, math.MaxInt,
	}
}

func bigOf(n int) *big.Int { return big.NewInt(int64(n)) }

func bigProduct(a, b int) *big.Int {
	return new(big.Int).Mul(bigOf(max(a, 0)), bigOf(max(b, 0)))
}

// P1.1: MulDiv by hand-picked rows.
func TestMulDivRows(t *testing.T) {
	for _, x := range []struct {
		a, b, c, want int
		ok            bool
	}{
		{7, 9, 4, 15, true},
		{8, 9, 4, 18, true},
		{0, 9, 4, 0, true},
		{9, 0, 4, 0, true},
		{1, 1, 2, 0, true},
		{most, 1, 1, most, true},
		{most, most, most, most, true},
		{most - 1, most, most, most - 1, true},
		{math.MaxInt, math.MaxInt - 1, math.MaxInt, 0, false},
		{math.MaxInt, 1, 2, most - 1, true},
		{math.MaxInt, most, math.MaxInt, most, true},
		{most + 1, 1, 1, 0, false},
		{most, 2, 1, 0, false},
		{most, 3, 2, 0, false},
		{1 << 32, 1 << 32, 4, most, true},
		{1 << 32, 1 << 32, 3, 0, false},
		{math.MaxInt, math.MaxInt, 1, 0, false},
		{-1, 1, 1, 0, false},
		{1, -1, 1, 0, false},
		{-1, -1, 1, 0, false},
		{-1, 0, 1, 0, false},
		{0, -1, 1, 0, false},
		{1, 1, 0, 0, false},
		{0, 0, 0, 0, false},
		{1, 1, -1, 0, false},
		{math.MinInt, math.MinInt, math.MinInt, 0, false},
	} {
		got, ok := ratio.MulDiv(x.a, x.b, x.c)
		if got != x.want || ok != x.ok {
			t.Errorf("MulDiv(%d, %d, %d) = %d, %t; want %d, %t", x.a, x.b, x.c, got, ok, x.want, x.ok)
		}
	}
}

func wantMulDiv(a, b, c int) (int, bool) {
	if a < 0 || b < 0 || c < 1 {
		return 0, false
	}
	q := bigProduct(a, b)
	q.Quo(q, bigOf(c))
	if q.Cmp(bigOf(most)) > 0 {
		return 0, false
	}
	return int(q.Int64()), true
}

// P1.1: MulDiv of each three edges is what wide numbers say.
func TestMulDivEdges(t *testing.T) {
	for _, a := range edges() {
		for _, b := range edges() {
			for _, c := range edges() {
				want, wantOk := wantMulDiv(a, b, c)
				if got, ok := ratio.MulDiv(a, b, c); got != want || ok != wantOk {
					t.Fatalf("MulDiv(%d, %d, %d) = %d, %t; want %d, %t", a, b, c, got, ok, want, wantOk)
				}
			}
		}
	}
}

// P1.1: Compare by hand-picked rows, both ways round.
func TestCompareRows(t *testing.T) {
	for _, x := range []struct{ a, b, c, d, want int }{
		{3, 4, 6, 2, 0},
		{3, 4, 6, 3, -1},
		{3, 5, 6, 2, 1},
		{most, 4, 1 << 61, 8, 0},
		{most, 4, 1, 1, 1},
		{1 << 32, 1 << 32, 1, 1, 1},
		{math.MaxInt, math.MaxInt, math.MaxInt, math.MaxInt, 0},
		{math.MaxInt, math.MaxInt - 1, math.MaxInt, math.MaxInt, -1},
		{-5, 9, 0, 3, 0},
		{-5, -9, 0, 3, 0},
		{-5, -9, 1, 1, -1},
		{math.MinInt, math.MinInt, 1, 1, -1},
		{math.MinInt, 2, -1, 7, 0},
	} {
		if got := ratio.Compare(x.a, x.b, x.c, x.d); got != x.want {
			t.Errorf("Compare(%d, %d, %d, %d) = %d; want %d", x.a, x.b, x.c, x.d, got, x.want)
		}
		if got := ratio.Compare(x.c, x.d, x.a, x.b); got != -x.want {
			t.Errorf("Compare(%d, %d, %d, %d) = %d; want %d", x.c, x.d, x.a, x.b, got, -x.want)
		}
	}
}

// P1.1: Compare of each four edges is what wide numbers say.
func TestCompareEdges(t *testing.T) {
	type pair struct {
		a, b    int
		product *big.Int
	}
	var pairs []pair
	for _, a := range edges() {
		for _, b := range edges() {
			pairs = append(pairs, pair{a, b, bigProduct(a, b)})
		}
	}
	for _, x := range pairs {
		for _, y := range pairs {
			want := x.product.Cmp(y.product)
			if got := ratio.Compare(x.a, x.b, y.a, y.b); got != want {
				t.Fatalf("Compare(%d, %d, %d, %d) = %d; want %d", x.a, x.b, y.a, y.b, got, want)
			}
		}
	}
}

// P1.1: Percent is MulDiv by 100, and 0 where that says no.
func TestPercent(t *testing.T) {
	for _, x := range []struct{ n, p, want int }{
		{50, 10, 5}, {59, 10, 5}, {60, 10, 6}, {64, 100, 64}, {64, 140, 89}, {1, 99, 0}, {0, 50, 0}, {50, 0, 0},
		{most, 100, most}, {most, 101, 0}, {most, 99, 4565569158243114024}, {most + 1, 100, 0}, {math.MaxInt, 50, most - 1},
		{-5, 10, 0}, {5, -10, 0}, {-50, -10, 0}, {math.MinInt, 100, 0},
	} {
		if got := ratio.Percent(x.n, x.p); got != x.want {
			t.Errorf("Percent(%d, %d) = %d; want %d", x.n, x.p, got, x.want)
		}
	}
	for _, n := range edges() {
		for _, p := range edges() {
			want, _ := wantMulDiv(n, p, 100)
			if got := ratio.Percent(n, p); got != want {
				t.Errorf("Percent(%d, %d) = %d; want %d", n, p, got, want)
			}
		}
	}
}

// P1.1: Sum by hand-picked rows.
func TestSumRows(t *testing.T) {
	for _, x := range []struct {
		l    []int
		want int
	}{
		{nil, 0},
		{[]int{}, 0},
		{[]int{5}, 5},
		{[]int{2, 3}, 5},
		{[]int{2, -3, 4}, 6},
		{[]int{-2, -3}, 0},
		{[]int{math.MinInt, math.MinInt, 1}, 1},
		{[]int{most}, most},
		{[]int{most - 1, 1}, most},
		{[]int{most - 2, 1}, most - 1},
		{[]int{most, 1}, most},
		{[]int{most + 1}, most},
		{[]int{most, most, most, most}, most},
		{[]int{math.MaxInt, math.MaxInt}, most},
		{[]int{1, math.MaxInt, math.MinInt, math.MinInt}, most},
		{[]int{most, -1}, most},
	} {
		if got := ratio.Sum(x.l...); got != x.want {
			t.Errorf("Sum(%v) = %d; want %d", x.l, got, x.want)
		}
	}
}

// P1.1: Sum of each three edges is what wide numbers say.
func TestSumEdges(t *testing.T) {
	for _, a := range edges() {
		for _, b := range edges() {
			for _, c := range edges() {
				sum := new(big.Int)
				for _, n := range []int{a, b, c} {
					sum.Add(sum, bigOf(max(n, 0)))
				}
				want := most
				if sum.Cmp(bigOf(most)) < 0 {
					want = int(sum.Int64())
				}
				if got := ratio.Sum(a, b, c); got != want {
					t.Fatalf("Sum(%d, %d, %d) = %d; want %d", a, b, c, got, want)
				}
			}
		}
	}
}

// P1.1: Draw by hand-picked rows, and of each two edges.
func TestDraw(t *testing.T) {
	for _, x := range []struct{ d, n, want int }{
		{0, 5, 0}, {4, 5, 4}, {5, 5, 0}, {7, 5, 2}, {-1, 5, 4}, {-4, 5, 1}, {-5, 5, 0}, {-6, 5, 4},
		{9, 1, 0}, {-9, 1, 0}, {3, 0, 0}, {3, -4, 0}, {-3, 0, 0}, {math.MinInt, -1, 0}, {math.MinInt, 0, 0},
		{math.MinInt, 10, 2}, {math.MinInt, math.MaxInt, math.MaxInt - 1}, {math.MaxInt, math.MaxInt, 0}, {-1, math.MaxInt, math.MaxInt - 1},
	} {
		if got := ratio.Draw(x.d, x.n); got != x.want {
			t.Errorf("Draw(%d, %d) = %d; want %d", x.d, x.n, got, x.want)
		}
	}
	for _, d := range edges() {
		for _, n := range edges() {
			want := new(big.Int)
			if n > 0 {
				want.Mod(bigOf(d), bigOf(n))
			}
			if got := ratio.Draw(d, n); bigOf(got).Cmp(want) != 0 {
				t.Errorf("Draw(%d, %d) = %d; want %v", d, n, got, want)
			}
		}
	}
}
