package bucket_test

import (
	"math/big"
	"math/rand"
	"testing"

	"triage/api"
	"triage/bucket"
)

// product tells the product of a and b, however wide.
func product(a, b int) *big.Int {
	return new(big.Int).Mul(big.NewInt(int64(a)), big.NewInt(int64(b)))
}

// rateByPages tells how often All goes wholly into 10000 times Ok.
func rateByPages(b api.Bucket) int {
	if !mayByPages(b) || b.All == 0 {
		return 0
	}
	return int(new(big.Int).Div(product(b.Ok, 10000), big.NewInt(int64(b.All))).Int64())
}

// failingByPages tells whether what fails, times 100, falls short of p times All by nothing.
func failingByPages(b api.Bucket, p int) bool {
	if p <= 0 || !mayByPages(b) || b.All == 0 {
		return false
	}
	short := product(p, b.All)
	short.Sub(short, product(100, b.All))
	short.Add(short, product(100, b.Ok))
	return short.Sign() <= 0
}

// enoughByPages tells the same of n as a bound from above.
func enoughByPages(b api.Bucket, n int) bool {
	return mayByPages(b) && b.All != 0 && !(n > b.All)
}

// aroundPercents are percentages around each bound, and far from it.
func aroundPercents() []int {
	return []int{
		least, least + 1, -1 << 62, -most, -101, -100, -99, -50, -1, 0, 1, 2, 33, 34, 49, 50, 51, 66, 67, 98, 99, 100, 101, 102, 199, 200, 10000, most, 1 << 31, 1 << 32,
		1 << 55, 1 << 60, 1 << 61, 1 << 62, 1<<62 + 1, greatest - 1, greatest,
	}
}

// TestRate: P12.1: by rows.
func TestRate(t *testing.T) {
	for _, x := range []struct {
		ok, all, want int
	}{
		// None at all, all ok, none ok.
		{0, 0, 0}, {1, 1, 10000}, {2, 2, 10000}, {3, 3, 10000}, {7, 7, 10000}, {0, 1, 0}, {0, 2, 0}, {0, 7, 0}, {most, most, 10000}, {0, most, 0},
		// Just so.
		{1, 2, 5000}, {1, 4, 2500}, {3, 4, 7500}, {1, 10000, 1}, {9999, 10000, 9999}, {1, 5, 2000}, {5, 8, 6250},
		// Down.
		{1, 3, 3333}, {2, 3, 6666}, {1, 6, 1666}, {5, 6, 8333}, {1, 7, 1428}, {6, 7, 8571}, {1, 10001, 0}, {10000, 10001, 9999}, {1, 20000, 0}, {3, 20000, 1}, {2, 20001, 0},
		// At the greatest counts.
		{1, most, 0}, {99999, most, 0}, {100000, most, 1}, {100001, most, 1}, {199999, most, 1}, {200000, most, 2}, {most / 2, most, 5000}, {most/2 - 1, most, 4999}, {most - 1, most, 9999}, {most - 100000, most, 9999}, {most - 100001, most, 9998}, {most - 2, most - 1, 9999}, {most - 1, most - 1, 10000},
	} {
		if got := bucket.Rate(of(x.ok, x.all)); got != x.want {
			t.Errorf("Rate(%d of %d) = %d; want %d", x.ok, x.all, got, x.want)
		}
	}
	for _, b := range spoiltBuckets() {
		if got := bucket.Rate(b); got != 0 {
			t.Errorf("Rate(%d of %d) = %d", b.Ok, b.All, got)
		}
	}
}

// TestExample: the chapter's: 1 of 3.
func TestExample(t *testing.T) {
	b := bucket.Note(bucket.Note(bucket.Note(api.Bucket{}, false), true), false)
	if b != of(1, 3) || bucket.Rate(b) != 3333 {
		t.Error(b, bucket.Rate(b))
	}
}

// TestEnough: P12.1: by rows.
func TestEnough(t *testing.T) {
	for _, x := range []struct {
		b    api.Bucket
		n    int
		want bool
	}{
		// At All, just above, just below.
		{of(1, 3), 3, true}, {of(1, 3), 4, false}, {of(1, 3), 2, true}, {of(0, 1), 1, true}, {of(0, 1), 2, false}, {of(1, 1), 1, true},
		{of(0, most), most, true}, {of(0, most), most + 1, false}, {of(most, most), most - 1, true}, {of(3, most-1), most, false},
		// It is All that counts, not what is ok, nor what is not.
		{of(0, 3), 3, true}, {of(3, 3), 3, true}, {of(2, 3), 3, true},
		// At 0, below, and far away.
		{of(1, 3), 0, true}, {of(1, 3), -1, true}, {of(1, 3), least, true}, {of(1, 3), greatest, false}, {of(1, 3), 1 << 32, false}, {of(1, 3), 1<<32 + 3, false}, {of(0, 1), least, true}, {of(most, most), greatest, false},
		// Of the empty one.
		{of(0, 0), 0, false}, {of(0, 0), 1, false}, {of(0, 0), -1, false}, {of(0, 0), least, false}, {of(0, 0), greatest, false},
	} {
		if got := bucket.Enough(x.b, x.n); got != x.want {
			t.Errorf("Enough(%d of %d, %d) = %v", x.b.Ok, x.b.All, x.n, got)
		}
	}
	for _, b := range spoiltBuckets() {
		for _, n := range someCounts() {
			if bucket.Enough(b, n) {
				t.Errorf("Enough(%d of %d, %d)", b.Ok, b.All, n)
			}
		}
	}
}

// TestFailing: P12.1: by rows: the greatest percentage that so many fail.
func TestFailing(t *testing.T) {
	for _, x := range []struct {
		ok, all, greatest int
	}{
		// Just so.
		{1, 2, 50}, {3, 4, 25}, {1, 4, 75}, {99, 100, 1}, {1, 100, 99}, {50, 100, 50}, {51, 100, 49}, {4, 5, 20},
		// More than one, less than the next.
		{1, 3, 66}, {2, 3, 33}, {1, 7, 85}, {6, 7, 14}, {100, 101, 0}, {1, 101, 99}, {198, 200, 1}, {199, 200, 0},
		// None ok, all ok, none at all.
		{0, 1, 100}, {0, 2, 100}, {0, 3, 100}, {0, 101, 100}, {1, 1, 0}, {2, 2, 0}, {101, 101, 0}, {0, 0, 0},
		// At the greatest counts.
		{0, most, 100}, {1, most, 99}, {most / 2, most, 50}, {most/2 + 1, most, 49}, {most/2 - 1, most, 50}, {most - 1, most, 0}, {most - most/100, most, 1}, {most - most/100 + 1, most, 0}, {most, most, 0}, {0, most - 1, 100},
	} {
		for p := -3; p <= 104; p++ {
			if got := bucket.Failing(of(x.ok, x.all), p); got != (p > 0 && p <= x.greatest) {
				t.Errorf("Failing(%d of %d, %d) = %v", x.ok, x.all, p, got)
			}
		}
		for _, p := range aroundPercents() {
			if got := bucket.Failing(of(x.ok, x.all), p); got != (p > 0 && p <= x.greatest) {
				t.Errorf("Failing(%d of %d, %d) = %v", x.ok, x.all, p, got)
			}
		}
	}
	for _, b := range spoiltBuckets() {
		for _, p := range aroundPercents() {
			if bucket.Failing(b, p) {
				t.Errorf("Failing(%d of %d, %d)", b.Ok, b.All, p)
			}
		}
	}
}

// TestFailingWide: R1: no product goes round: with All a power of two those of these percentages would be 0, or below.
func TestFailingWide(t *testing.T) {
	for all := 1; all <= 1<<29; all *= 2 {
		for _, ok := range []int{0, all / 2, all} {
			for _, p := range []int{1 << 62, 1<<62 + 1, greatest, greatest/all + 1, 1 << 61, (1<<62)/all*2 + 1, 1 << 35, 1<<35 + 1} {
				if p > 100 && bucket.Failing(of(ok, all), p) {
					t.Errorf("Failing(%d of %d, %d)", ok, all, p)
				}
			}
		}
	}
}

// asks holds every telling call of b against the pages; what was handed in stays.
func asks(t *testing.T, b api.Bucket) {
	t.Helper()
	was := b
	if got := bucket.Rate(b); got != rateByPages(b) {
		t.Errorf("Rate(%d of %d) = %d", b.Ok, b.All, got)
	}
	for _, n := range someCounts() {
		if got := bucket.Enough(b, n); got != enoughByPages(b, n) {
			t.Errorf("Enough(%d of %d, %d) = %v", b.Ok, b.All, n, got)
		}
	}
	for _, p := range aroundPercents() {
		if got := bucket.Failing(b, p); got != failingByPages(b, p) {
			t.Errorf("Failing(%d of %d, %d) = %v", b.Ok, b.All, p, got)
		}
	}
	if b != was {
		t.Errorf("%v is now %v", was, b)
	}
}

// TestAsksAll: P12.1: pairs of counts of any size.
func TestAsksAll(t *testing.T) {
	for _, b := range someBuckets() {
		asks(t, b)
	}
}

// TestAsksSmall: P12.1: every bucket of up to 120, at its own counts and each percentage.
func TestAsksSmall(t *testing.T) {
	for all := range 121 {
		for ok := -1; ok <= all+1; ok++ {
			b := of(ok, all)
			asks(t, b)
			for n := all - 1; n <= all+1; n++ {
				if got := bucket.Enough(b, n); got != enoughByPages(b, n) {
					t.Errorf("Enough(%d of %d, %d) = %v", b.Ok, b.All, n, got)
				}
			}
			for p := range 103 {
				if got := bucket.Failing(b, p); got != failingByPages(b, p) {
					t.Errorf("Failing(%d of %d, %d) = %v", b.Ok, b.All, p, got)
				}
			}
		}
	}
}

// TestAsksDrawn: P12.1: buckets of any size, most of them at a percentage just met, or missed by one request.
func TestAsksDrawn(t *testing.T) {
	r := rand.New(rand.NewSource(121))
	met := 0
	for range 3000 {
		all := 1 + r.Intn(1<<(1+r.Intn(29)))
		p := 1 + r.Intn(100)
		fails := (p*all + 99) / 100
		for _, b := range []api.Bucket{of(all-fails, all), of(all-fails+1, all), of(all-fails-1, all), of(r.Intn(all+1), all)} {
			for q := p - 1; q <= p+1; q++ {
				got := bucket.Failing(b, q)
				if got != failingByPages(b, q) {
					t.Errorf("Failing(%d of %d, %d) = %v", b.Ok, b.All, q, got)
				}
				if got {
					met++
				}
			}
			asks(t, b)
			if got := bucket.Enough(b, all); got != mayByPages(b) {
				t.Errorf("Enough(%d of %d, %d) = %v", b.Ok, b.All, all, got)
			}
			if bucket.Enough(b, all+1) {
				t.Errorf("Enough(%d of %d, %d)", b.Ok, b.All, all+1)
			}
		}
	}
	if met < 10000 || met > 30000 {
		t.Errorf("%d are met: the draw asks too little", met)
	}
}
