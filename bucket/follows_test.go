package bucket_test

import (
	"math/rand"
	"testing"

	"triage/api"
	"triage/bucket"
)

// goesUp holds the rates of b, and of b behind one more, against one another.
func goesUp(t *testing.T, b api.Bucket) {
	t.Helper()
	now, up, down := bucket.Rate(b), bucket.Rate(bucket.Note(b, true)), bucket.Rate(bucket.Note(b, false))
	for _, rate := range []int{now, up, down} {
		if rate < 0 || rate > 10000 {
			t.Errorf("around %d of %d: a rate of %d", b.Ok, b.All, rate)
		}
	}
	if up < now || down > now {
		t.Errorf("%d of %d: %d; %d behind one that is ok, %d behind one that is not", b.Ok, b.All, now, up, down)
	}
}

// TestRatesWithin: P12.2: rates are 0 to 10000; one more that is ok lowers none, one that is not raises none.
func TestRatesWithin(t *testing.T) {
	for all := range 400 {
		for ok := range all + 1 {
			goesUp(t, of(ok, all))
		}
	}
	for _, b := range append(someBuckets(), spoiltBuckets()...) {
		goesUp(t, b)
	}
	r := rand.New(rand.NewSource(122))
	for range 20000 {
		all := r.Intn(1 << (1 + r.Intn(30)))
		goesUp(t, of(r.Intn(all+1), all))
	}
}

// TestAllOk: P12.2: all ok is all of the rate, and fails at nothing; none ok is none of it, and fails at 100 percent.
func TestAllOk(t *testing.T) {
	var yes, no api.Bucket
	for n := 1; n <= 3000; n++ {
		yes, no = bucket.Note(yes, true), bucket.Note(no, false)
		if yes != of(n, n) || bucket.Rate(yes) != 10000 || bucket.Failing(yes, 1) || !bucket.Enough(yes, n) {
			t.Errorf("%d ok: %v", n, yes)
		}
		if no != of(0, n) || bucket.Rate(no) != 0 || !bucket.Failing(no, 100) || bucket.Failing(no, 101) || !bucket.Enough(no, n) {
			t.Errorf("%d not ok: %v", n, no)
		}
	}
}

// TestNotAll: one that is not ok among them: less than all of the rate, and more than none as long as it shows.
func TestNotAll(t *testing.T) {
	for _, all := range []int{2, 3, 10, 9999, 10000, 10001, 1 << 20, most - 1, most} {
		if rate := bucket.Rate(of(all-1, all)); rate >= 10000 {
			t.Errorf("%d of %d: %d", all-1, all, rate)
		}
		if rate := bucket.Rate(of(1, all)); (rate > 0) != (all <= 10000) {
			t.Errorf("1 of %d: %d", all, rate)
		}
	}
}

// TestGreaterPercent: a greater percentage fails no more, more requests that are ok fail at no more.
func TestGreaterPercent(t *testing.T) {
	r := rand.New(rand.NewSource(123))
	for range 2000 {
		all := r.Intn(1 << (1 + r.Intn(29)))
		b := of(r.Intn(all+1), all)
		last := true
		for p := 1; p <= 110; p++ {
			now := bucket.Failing(b, p)
			if now && !last {
				t.Errorf("%v fails at %d, not below", b, p)
			}
			if bucket.Failing(bucket.Note(b, true), p) && !now && b.All > 0 {
				t.Errorf("%v fails at %d when one more is ok", b, p)
			}
			if now && !bucket.Failing(bucket.Note(b, false), p) {
				t.Errorf("%v does not fail at %d when one more is not ok", b, p)
			}
			last = now
		}
		if last {
			t.Errorf("%v fails at 110 percent", b)
		}
	}
}

// TestFewerEnough: whoever is enough for a number is for each below it.
func TestFewerEnough(t *testing.T) {
	for all := range 50 {
		last := true
		for n := -60; n < 60; n++ {
			now := bucket.Enough(of(0, all), n)
			if now && !last || now && all == 0 {
				t.Errorf("%d are enough for %d", all, n)
			}
			last = now
		}
	}
}

// noted tells the bucket behind all answers.
func noted(b api.Bucket, l []bool) api.Bucket {
	for _, ok := range l {
		b = bucket.Note(b, ok)
	}
	return b
}

// TestAnyOrder: noted one by one, the order does not matter as long as there is room for all of them.
func TestAnyOrder(t *testing.T) {
	r := rand.New(rand.NewSource(124))
	for range 300 {
		l := make([]bool, r.Intn(200))
		yes := 0
		for i := range l {
			l[i] = r.Intn(10) < 5
			if l[i] {
				yes++
			}
		}
		for _, b := range []api.Bucket{{}, of(3, 10), of(most/2, most-len(l)), of(0, most-len(l))} {
			want := of(b.Ok+yes, b.All+len(l))
			for range 3 {
				if got := noted(b, l); got != want {
					t.Errorf("from %v: %v; want %v", b, got, want)
				}
				r.Shuffle(len(l), func(i, j int) { l[i], l[j] = l[j], l[i] })
			}
		}
	}
}

// TestFull: P12.1: where there is no room for all of them, the first ones count.
func TestFull(t *testing.T) {
	b := of(7, most-2)
	if got := noted(b, []bool{true, false, true, true, false}); got != of(8, most) {
		t.Error(got)
	}
	if got := noted(b, []bool{false, false, true, true, true}); got != of(7, most) {
		t.Error(got)
	}
	if got := noted(b, []bool{true, true, false, false, true}); got != of(9, most) {
		t.Error(got)
	}
}
