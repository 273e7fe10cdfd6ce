package spread_test

import (
	"math"
	"math/rand"
	"slices"
	"strings"
	"testing"

	"triage/spread"
)

const (
	maxHosts = 64
	least    = math.MinInt
	greatest = math.MaxInt
)

// some is so many of one rate.
func some(n, rate int) []int {
	return slices.Repeat([]int{rate}, n)
}

// join is the rows one behind the other, new memory.
func join(rows ...[]int) []int {
	return slices.Concat(rows...)
}

// letters writes what is told: f for far below, a dot for not.
func letters(l []bool) string {
	var s strings.Builder
	for _, far := range l {
		if far {
			s.WriteByte('f')
		} else {
			s.WriteByte('.')
		}
	}
	return s.String()
}

// tellsFar asks which rates are far below; what was handed in stays.
func tellsFar(t *testing.T, rates []int, factor int, want string) {
	t.Helper()
	was := slices.Clone(rates)
	if got := letters(spread.Far(rates, factor)); got != want {
		t.Errorf("Far(%v, %d) = %s; want %s", was, factor, got, want)
	}
	if !slices.Equal(rates, was) {
		t.Errorf("Far changed %v to %v", was, rates)
	}
}

// TestFarRows: P13.1: by rows.
func TestFarRows(t *testing.T) {
	for _, x := range []struct {
		rates  []int
		factor int
		want   string
	}{
		// No rates, one, two.
		{nil, 1000, ""}, {[]int{}, 1, ""}, {[]int{}, 10000, ""},
		{[]int{0}, 1, "."}, {[]int{5000}, 1, "."}, {[]int{10000}, 1, "."}, {[]int{0}, 10000, "."},
		{[]int{3, 4}, 1, "f."}, {[]int{4, 3}, 999, ".f"}, {[]int{3, 4}, 1000, ".."}, {[]int{0, 10000}, 999, "f."}, {[]int{0, 10000}, 1000, ".."},
		// The chapter's example: 24000 squared is three times 192000000; the square of 1732 thousandths is just below three.
		{[]int{9000, 9000, 9000, 1000}, 1000, "...f"}, {[]int{9000, 9000, 9000, 1000}, 1732, "...f"}, {[]int{9000, 9000, 9000, 1000}, 1733, "...."}, {[]int{9000, 1000, 9000, 9000}, 1000, ".f.."},
		// Those at 0 and at 10000, first, in the middle and last.
		{[]int{0, 10000, 10000, 10000, 10000}, 1999, "f...."}, {[]int{10000, 10000, 0, 10000, 10000}, 1999, "..f.."}, {[]int{10000, 10000, 10000, 10000, 0}, 1999, "....f"},
		{[]int{10000, 10000, 0, 10000, 10000}, 2000, "....."}, {[]int{10000, 0, 0, 0, 0}, 1, ".ffff"}, {[]int{10000, 0, 0, 0, 0}, 499, ".ffff"}, {[]int{10000, 0, 0, 0, 0}, 500, "....."},
		// One at the mean, one just below, one just above.
		{[]int{0, 5000, 10000}, 1, "f.."}, {[]int{0, 4999, 5001, 10000}, 1, "f..."}, {[]int{1, 2, 3}, 1, "f.."}, {[]int{1, 2, 3}, 1224, "f.."}, {[]int{1, 2, 3}, 1225, "..."},
		{[]int{2, 3, 4, 11}, 1, "fff."}, {[]int{2, 3, 4, 11}, 282, "fff."}, {[]int{2, 3, 4, 11}, 283, "ff.."}, {[]int{2, 3, 4, 11}, 565, "ff.."}, {[]int{2, 3, 4, 11}, 566, "f..."}, {[]int{2, 3, 4, 11}, 848, "f..."}, {[]int{2, 3, 4, 11}, 849, "...."},
		// Several of one rate.
		{[]int{1, 9, 9, 1, 9, 9, 9, 9, 9, 9}, 1999, "f..f......"}, {[]int{1, 9, 9, 1, 9, 9, 9, 9, 9, 9}, 2000, ".........."},
		// All alike.
		{some(2, 0), 1, ".."}, {some(3, 7), 1, "..."}, {some(4, 10000), 1, "...."}, {some(4, 10000), 10000, "...."},
		// A great factor, and the greatest.
		{[]int{0, 10000, 10000}, 10000, "..."}, {[]int{0, 10000, 10000}, 5000, "..."},
	} {
		tellsFar(t, x.rates, x.factor, x.want)
	}
}

// TestFarOneLow: P13.1: one of n that are alike else lies just as far below as the root of n - 1 says, wherever it stands: there it is not far below, one thousandth less and it is.
func TestFarOneLow(t *testing.T) {
	for root := 1; root <= 7; root++ {
		n := root*root + 1
		dots := strings.Repeat(".", n)
		for at := range n {
			for _, rates := range [][2]int{{0, 10000}, {0, 1}, {9999, 10000}, {4321, 8765}, {5000, 5001}} {
				l := some(n, rates[1])
				l[at] = rates[0]
				only := dots[:at] + "f" + dots[at+1:]
				tellsFar(t, l, 1, only)
				tellsFar(t, l, root*1000-1, only)
				tellsFar(t, l, root*1000, dots)
				tellsFar(t, l, root*1000+1, dots)
				tellsFar(t, l, 10000, dots)
			}
		}
	}
}

// TestFarSeveralLow: P13.1: of low ones and high ones, how far below the low ones lie is the root of how many high ones there are to each low one.
func TestFarSeveralLow(t *testing.T) {
	for root := 1; root <= 7; root++ {
		for low := 1; low*(root*root+1) <= maxHosts; low++ {
			high := low * root * root
			l := join(some(low, 17), some(high, 9017))
			rest := strings.Repeat(".", high)
			tellsFar(t, l, root*1000-1, strings.Repeat("f", low)+rest)
			tellsFar(t, l, root*1000, strings.Repeat(".", low)+rest)
		}
	}
}

// TestFarMost: P13.1: as many as there may be, and the widest products: the right one is beyond 2^63 at half of each, factor 10000.
func TestFarMost(t *testing.T) {
	dots := strings.Repeat(".", maxHosts)
	one := join(some(63, 10000), some(1, 0))
	tellsFar(t, one, 7937, dots[1:]+"f")
	tellsFar(t, one, 7938, dots)
	tellsFar(t, one, 10000, dots)
	half := join(some(32, 0), some(32, 10000))
	tellsFar(t, half, 1, strings.Repeat("f", 32)+dots[:32])
	tellsFar(t, half, 999, strings.Repeat("f", 32)+dots[:32])
	for _, factor := range []int{1000, 1001, 5000, 9490, 9491, 9492, 9999, 10000} {
		tellsFar(t, half, factor, dots)
	}
	for high := 1; high < maxHosts; high++ {
		l := join(some(high, 10000), some(maxHosts-high, 0))
		tellsFar(t, l, 10000, dots)
		tellsFar(t, l, 1, dots[:high]+strings.Repeat("f", maxHosts-high))
	}
	for _, rate := range []int{0, 1, 5000, 9999, 10000} {
		tellsFar(t, some(maxHosts, rate), 1, dots)
		tellsFar(t, some(maxHosts+1, rate), 1, "")
	}
	tellsFar(t, join(one, some(1, 10000)), 1000, "")
	tellsFar(t, some(1000, 3), 1000, "")
}

// TestFarByOne: P13.1: products of some 2^56 that differ by 1 or by 4, closer than numbers with a floating point tell apart: those at 0 are far below, and not by one thousandth more.
func TestFarByOne(t *testing.T) {
	for _, x := range []struct {
		low, high, rest, rate int
		odd                   []int
		factor                int
	}{
		{5, 18, 6, 4021, []int{508, 3163, 2424}, 1611},
		{6, 18, 5, 7974, []int{3471, 8315, 7874}, 1957},
		{4, 5, 20, 8018, []int{837, 4800, 1536}, 2107},
		{1, 17, 11, 4406, []int{1612, 5237, 4706}, 2301},
	} {
		l := join(some(x.low, 0), some(x.high, 10000), some(x.rest, x.rate), x.odd)
		rest := strings.Repeat(".", len(l)-x.low)
		tellsFar(t, l, x.factor, strings.Repeat("f", x.low)+rest)
		tellsFar(t, l, x.factor+1, strings.Repeat(".", x.low)+rest)
	}
}

// TestFarFactor: P13.1: the factor at its bounds, and beyond them.
func TestFarFactor(t *testing.T) {
	l := join(some(50, 9000), some(1, 100))
	for _, factor := range []int{1, 2, 1000, 7071} {
		tellsFar(t, l, factor, strings.Repeat(".", 50)+"f")
	}
	for _, factor := range []int{7072, 9999, 10000} {
		tellsFar(t, l, factor, strings.Repeat(".", 51))
	}
	for _, factor := range []int{0, -1, -2, -1000, -10000, 10001, 10002, 20000, 1 << 31, 1 << 32, 1<<32 + 1, 1 << 62, greatest, greatest - 1, least, least + 1} {
		tellsFar(t, l, factor, "")
		tellsFar(t, []int{1, 2}, factor, "")
		tellsFar(t, []int{7}, factor, "")
		tellsFar(t, nil, factor, "")
	}
}

// TestFarRates: P13.1: one rate at its bounds, and beyond them, wherever it stands.
func TestFarRates(t *testing.T) {
	for _, n := range []int{1, 2, 3, 9, maxHosts} {
		for at := range n {
			l := some(n, 6000)
			for _, rate := range []int{0, 1, 9999, 10000} {
				l[at] = rate
				if got := spread.Far(l, 500); len(got) != n || got[at] != (rate < 6000 && n > 1) {
					t.Errorf("Far(%v, 500) = %s", l, letters(got))
				}
			}
			for _, rate := range []int{-1, -2, -6000, -10000, 10001, 10002, 1 << 31, 1 << 32, 1<<32 + 6000, 1 << 62, greatest, least} {
				l[at] = rate
				tellsFar(t, l, 500, "")
				tellsFar(t, l, 1, "")
			}
		}
	}
	tellsFar(t, []int{-1, 10001}, 500, "")
	tellsFar(t, some(5, -3), 500, "")
	tellsFar(t, some(5, 10001), 500, "")
}

// TestFarDrawn: P13.1: drawn rates, by the sentence told another way.
func TestFarDrawn(t *testing.T) {
	r := rand.New(rand.NewSource(131))
	yes, no := 0, 0
	for range 20000 {
		rates, factor := drawnRates(r), 1+r.Intn(1+r.Intn(10000))
		want := farByPages(rates, factor)
		tellsFar(t, rates, factor, letters(want))
		for _, far := range want {
			if far {
				yes++
			} else {
				no++
			}
		}
	}
	if yes < 10000 || no < 10000 {
		t.Errorf("%d far below, %d not: they ask too little", yes, no)
	}
}

// TestFarNear: P13.1: drawn rates, each with the greatest factor at which it is far below, and one more.
func TestFarNear(t *testing.T) {
	r := rand.New(rand.NewSource(132))
	asked := 0
	for range 3000 {
		rates := drawnRates(r)
		if len(rates) == 0 {
			continue
		}
		at := r.Intn(len(rates))
		most := mostFactor(rates, at)
		for _, factor := range []int{most - 1, most, most + 1, most + 2} {
			if factor < 1 || factor > 10000 {
				continue
			}
			if got := spread.Far(rates, factor); len(got) != len(rates) || got[at] != (factor <= most) {
				t.Errorf("Far(%v, %d) = %s; %d is far up to %d", rates, factor, letters(got), at, most)
			}
			asked++
		}
	}
	if asked < 5000 {
		t.Errorf("asked %d times only", asked)
	}
}
