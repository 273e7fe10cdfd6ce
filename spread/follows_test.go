package spread_test

import (
	"math/rand"
	"slices"
	"strings"
	"testing"

	"triage/api"
	"triage/bucket"
	"triage/spread"
)

// TestAlike: P13.3: where all have one rate nobody is far below.
func TestAlike(t *testing.T) {
	for n := range maxHosts + 1 {
		for _, rate := range []int{0, 1, 2, 3333, 5000, 9999, 10000} {
			for _, factor := range []int{1, 2, 1000, 9999, 10000} {
				tellsFar(t, some(n, rate), factor, strings.Repeat(".", n))
			}
		}
	}
	var l []api.Rated
	for id := range maxHosts {
		// One rate of other counts.
		l = append(l, rated(id, 3*(id+4), 4*(id+4)))
		tellsBad(t, asks(1, 1, 0), l)
		tellsBad(t, asks(1, 1, 26), l)
	}
}

// TestMeanNever: P13.3: the mean never is far below, nor who is above it; who is just below it may be.
func TestMeanNever(t *testing.T) {
	r := rand.New(rand.NewSource(134))
	met := 0
	for range 5000 {
		// Rates two by two the same way from one: that one is the mean.
		middle, n := r.Intn(10001), 1+r.Intn(31)
		l := []int{middle}
		for range n {
			far := r.Intn(min(middle, 10000-middle) + 1)
			l = append(l, middle-far, middle+far)
		}
		r.Shuffle(len(l), func(i, j int) { l[i], l[j] = l[j], l[i] })
		for _, factor := range []int{1, 1 + r.Intn(1000), 1 + r.Intn(10000)} {
			for i, far := range spread.Far(l, factor) {
				if far && l[i] >= middle {
					t.Errorf("Far(%v, %d): %d is not below %d", l, factor, l[i], middle)
				}
				if far {
					met++
				}
			}
		}
	}
	if met < 10000 {
		t.Errorf("%d are far below: they ask too little", met)
	}
}

// TestAboveNever: P13.3: whoever has no less than the mean is not far below, whatever the rates are.
func TestAboveNever(t *testing.T) {
	r := rand.New(rand.NewSource(135))
	for range 5000 {
		l := drawnRates(r)
		sum := 0
		for _, rate := range l {
			sum += rate
		}
		for i, far := range spread.Far(l, 1) {
			if far && l[i]*len(l) >= sum {
				t.Errorf("Far(%v, 1): %d is not below the mean of %d", l, l[i], sum)
			}
		}
	}
}

// TestAnyOrder: P13.1, P13.2: in whatever order they stand each is told the same.
func TestAnyOrder(t *testing.T) {
	r := rand.New(rand.NewSource(136))
	for range 3000 {
		rates, factor := drawnRates(r), 1+r.Intn(3000)
		far := spread.Far(rates, factor)
		places := r.Perm(len(rates))
		moved := make([]int, len(rates))
		for from, to := range places {
			moved[to] = rates[from]
		}
		now := spread.Far(moved, factor)
		for from, to := range places {
			if now[to] != far[from] {
				t.Errorf("Far(%v, %d): %d moved to %d is told otherwise", rates, factor, from, to)
			}
		}
		c, l := drawnAsks(r), drawnHosts(r)
		bad := spread.Bad(c, l)
		r.Shuffle(len(l), func(i, j int) { l[i], l[j] = l[j], l[i] })
		tellsBad(t, c, l, bad...)
	}
}

// TestLowerToo: P13.1: whoever lies no higher than one that is far below is far below too.
func TestLowerToo(t *testing.T) {
	r := rand.New(rand.NewSource(137))
	for range 3000 {
		l, factor := drawnRates(r), 1+r.Intn(3000)
		slices.Sort(l)
		told := letters(spread.Far(l, factor))
		if strings.Contains(told, ".f") || len(told) != len(l) {
			t.Errorf("Far(%v, %d) = %s", l, factor, told)
		}
	}
}

// TestGreaterFactor: P13.1, P13.2: a greater factor tells no more, and so does a greater percentage.
func TestGreaterFactor(t *testing.T) {
	r := rand.New(rand.NewSource(138))
	for range 300 {
		rates, l, c := drawnRates(r), drawnHosts(r), asks(3, 1, 0)
		last, lastBad := spread.Far(rates, 1), spread.Bad(c, l)
		for factor := 2; factor <= 10000; factor += 1 + r.Intn(400) {
			c.Factor = factor
			now, bad := spread.Far(rates, factor), spread.Bad(c, l)
			for i := range now {
				if now[i] && !last[i] {
					t.Errorf("Far(%v, %d): %d is, and is not at a lesser one", rates, factor, i)
				}
			}
			within(t, bad, lastBad)
			last, lastBad = now, bad
		}
		c.Factor, c.Fails = 0, 1
		lastBad = spread.Bad(c, l)
		for fails := 2; fails <= 100; fails++ {
			c.Fails = fails
			bad := spread.Bad(c, l)
			within(t, bad, lastBad)
			lastBad = bad
		}
	}
}

// within asks that the few are among the many, in their order.
func within(t *testing.T, few, many []int) {
	t.Helper()
	for _, id := range many {
		if len(few) > 0 && few[0] == id {
			few = few[1:]
		}
	}
	if len(few) > 0 {
		t.Errorf("%v are not among %v", few, many)
	}
}

// TestBadRises: P13.2: who is bad is told by rate, then by Id, each once, and of those alone that have enough; together they are those that the spread tells and those that fail.
func TestBadRises(t *testing.T) {
	r := rand.New(rand.NewSource(139))
	for range 3000 {
		c, l := drawnAsks(r), drawnHosts(r)
		by := map[int]api.Bucket{}
		for _, x := range l {
			by[x.Id] = x.Bucket
		}
		bad := spread.Bad(c, l)
		for i, id := range bad {
			b, ok := by[id]
			if !ok || !bucket.Enough(b, c.Requests) {
				t.Errorf("%d of %v: not one of enough", id, b)
			}
			if i > 0 && (bucket.Rate(by[bad[i-1]]) > bucket.Rate(b) || bucket.Rate(by[bad[i-1]]) == bucket.Rate(b) && bad[i-1] >= id) {
				t.Errorf("%d stands ahead of %d", bad[i-1], id)
			}
		}
		far, failing := c, c
		far.Fails, failing.Factor = 0, 0
		one, two := spread.Bad(far, l), spread.Bad(failing, l)
		within(t, one, bad)
		within(t, two, bad)
		for _, id := range bad {
			if !slices.Contains(one, id) && !slices.Contains(two, id) {
				t.Errorf("%d is bad, and neither far below nor failing", id)
			}
		}
	}
}

// TestTooFewCount: P13.2: whoever has not enough requests is as if he were not there.
func TestTooFewCount(t *testing.T) {
	r := rand.New(rand.NewSource(140))
	for range 3000 {
		c, l := drawnAsks(r), drawnHosts(r)
		few := slices.DeleteFunc(slices.Clone(l), func(x api.Rated) bool { return x.Bucket.All < c.Requests })
		tellsBad(t, c, few, spread.Bad(c, l)...)
	}
}
