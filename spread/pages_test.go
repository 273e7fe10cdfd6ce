package spread_test

import (
	"cmp"
	"math/big"
	"math/rand"
	"slices"

	"triage/api"
)

// below tells of each rate how far it lies below the mean, so many times as there are rates, so that it is whole.
func below(rates []int) []int64 {
	sum := int64(0)
	for _, rate := range rates {
		sum += int64(rate)
	}
	l := make([]int64, len(rates))
	for i, rate := range rates {
		l[i] = sum - int64(len(rates))*int64(rate)
	}
	return l
}

// deviations is the sum of the squares of how far they lie from the mean: by how many there are it is the square of the deviation.
func deviations(rates []int) *big.Int {
	sum := int64(0)
	for _, far := range below(rates) {
		sum += far * far
	}
	return big.NewInt(sum)
}

// product is that of all of them, of any size.
func product(l ...int64) *big.Int {
	all := big.NewInt(1)
	for _, n := range l {
		all.Mul(all, big.NewInt(n))
	}
	return all
}

// farByPages is the sentence of the chapter's words told by its second half: further below the mean than so many thousandths of the deviation.
func farByPages(rates []int, factor int) []bool {
	l := make([]bool, len(rates))
	bound := product(int64(factor), int64(factor))
	bound.Mul(bound, deviations(rates))
	for i, far := range below(rates) {
		l[i] = far > 0 && product(far, far, int64(len(rates)), 1000000).Cmp(bound) > 0
	}
	return l
}

// mostFactor is the greatest factor, of any size, at which a rate is far below; 0: none.
func mostFactor(rates []int, at int) int {
	far := below(rates)[at]
	if far <= 0 {
		return 0
	}
	// What the square of a factor must stay below: it may not even meet it.
	bound := product(far, far, int64(len(rates)), 1000000)
	whole, rest := new(big.Int).QuoRem(bound, deviations(rates), new(big.Int))
	if rest.Sign() == 0 {
		whole.Sub(whole, big.NewInt(1))
	}
	return int(whole.Sqrt(whole).Int64())
}

// drawnRates are up to as many as there may be, mostly near a high one, some of them low, some alike.
func drawnRates(r *rand.Rand) []int {
	l := make([]int, r.Intn(maxHosts+1))
	if r.Intn(3) == 0 {
		l = l[:min(len(l), r.Intn(5))]
	}
	high, wide, odd := r.Intn(10001), 1+r.Intn(1+r.Intn(10000)), 1+r.Intn(12)
	for i := range l {
		l[i] = max(0, high-r.Intn(wide))
		if r.Intn(odd) == 0 {
			l[i] = r.Intn(10001)
		}
	}
	return l
}

// rated is a host, and its bucket.
func rated(id, ok, all int) api.Rated {
	return api.Rated{Id: id, Bucket: api.Bucket{Ok: ok, All: all}}
}

// badByPages is P13.2 told the other way round: all are ordered, and those that are not bad go, one by one.
func badByPages(c api.Config, l []api.Rated) []int {
	all := slices.DeleteFunc(slices.Clone(l), func(x api.Rated) bool { return x.Bucket.All < c.Requests })
	rateOf := func(x api.Rated) int { return x.Bucket.Ok * 10000 / x.Bucket.All }
	slices.SortFunc(all, func(x, y api.Rated) int {
		return cmp.Or(cmp.Compare(rateOf(x), rateOf(y)), cmp.Compare(x.Id, y.Id))
	})
	var rates, bad []int
	for _, x := range all {
		rates = append(rates, rateOf(x))
	}
	asked := c.Factor != 0 && c.Hosts <= len(all)
	far := farByPages(rates, c.Factor)
	for i, x := range all {
		wellEnough := c.Fails == 0 || (x.Bucket.All-x.Bucket.Ok)*100 < c.Fails*x.Bucket.All
		if wellEnough && !(asked && far[i]) {
			continue
		}
		bad = append(bad, x.Id)
	}
	return bad
}
