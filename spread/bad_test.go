package spread_test

import (
	"math/rand"
	"slices"
	"testing"

	"triage/api"
	"triage/config"
	"triage/spoilt"
	"triage/spread"
)

const (
	mostRequests = 1000000000
	enough       = 10 // requests, in these tests
)

// asks is the configuration by itself with what a spread goes by.
func asks(hosts, factor, fails int) api.Config {
	c := config.Default()
	c.Requests, c.Hosts, c.Factor, c.Fails = enough, hosts, factor, fails
	return c
}

// tellsBad asks who is bad; what was handed in stays.
func tellsBad(t *testing.T, c api.Config, l []api.Rated, want ...int) {
	t.Helper()
	was, had := slices.Clone(l), c
	if got := spread.Bad(c, l); !slices.Equal(got, want) {
		t.Errorf("requests %d, hosts %d, factor %d, fails %d: Bad(%v) = %v; want %v", c.Requests, c.Hosts, c.Factor, c.Fails, was, got, want)
	}
	if !slices.Equal(l, was) || c != had {
		t.Errorf("Bad changed %v to %v", was, l)
	}
}

// TestBadRows: P13.2: by rows.
func TestBadRows(t *testing.T) {
	four := []api.Rated{rated(9, 90, 100), rated(2, 90, 100), rated(7, 10, 100), rated(4, 9, 10)}
	// Beside the four those that have not enough: they are not told, they count as none of the Hosts, and their rates move no mean.
	more := append(slices.Clone(four), rated(1, 0, 9), rated(3, 0, 0), rated(5, 9, 9), rated(6, 0, 1))
	// The mean of all is 5857: those at 1000 lie 4857 below it, the one at 2000 lies 3857 below, the one at 7000 above; the deviation is some 4050.
	two := []api.Rated{rated(9, 100, 100), rated(2, 10, 100), rated(7, 10, 100), rated(4, 100, 100), rated(5, 20, 100), rated(1, 100, 100), rated(6, 70, 100)}
	for _, x := range []struct {
		c    api.Config
		l    []api.Rated
		want []int
	}{
		{asks(4, 1000, 0), nil, nil}, {asks(1, 1, 1), nil, nil}, {asks(1, 1, 100), []api.Rated{}, nil},
		// Far below, as many of enough as Hosts, more, and one fewer.
		{asks(4, 1000, 0), four, []int{7}}, {asks(5, 1000, 0), four, nil}, {asks(1, 1000, 0), four, []int{7}}, {asks(3, 1732, 0), four, []int{7}}, {asks(3, 1733, 0), four, nil},
		{asks(4, 1000, 0), more, []int{7}}, {asks(5, 1000, 0), more, nil}, {asks(8, 1000, 0), more, nil},
		{asks(4, 1000, 0), four[:3], nil}, {asks(3, 1000, 0), four[:3], []int{7}}, {asks(3, 1000, 0), four[1:], []int{7}},
		// Factor at 0: no spread.
		{asks(1, 0, 0), four, nil}, {asks(4, 0, 0), two, nil}, {asks(1, 1, 0), four, []int{7}}, {asks(1, 10000, 0), four, nil},
		// Failing, met just so, one more and one less; it asks for no Hosts.
		{asks(64, 0, 90), four, []int{7}}, {asks(64, 0, 91), four, nil}, {asks(64, 0, 89), four, []int{7}}, {asks(64, 0, 10), four, []int{7, 2, 4, 9}}, {asks(64, 0, 11), four, []int{7}},
		{asks(64, 0, 10), more, []int{7, 2, 4, 9}}, {asks(64, 0, 1), more, []int{7, 2, 4, 9}}, {asks(64, 0, 100), more, nil}, {asks(64, 1000, 50), four[2:3], []int{7}},
		// Far below and failing, told once; far below alone, failing alone.
		{asks(4, 1000, 50), four, []int{7}}, {asks(4, 1000, 10), four, []int{7, 2, 4, 9}}, {asks(7, 1000, 0), two, []int{2, 7}}, {asks(7, 900, 0), two, []int{2, 7, 5}}, {asks(7, 1000, 85), two, []int{2, 7}}, {asks(7, 1000, 80), two, []int{2, 7, 5}}, {asks(7, 1000, 30), two, []int{2, 7, 5, 6}}, {asks(7, 1300, 81), two, []int{2, 7}}, {asks(8, 1000, 81), two, []int{2, 7}},
		{asks(4, 1000, 91), four, []int{7}}, {asks(5, 1000, 91), four, nil},
	} {
		tellsBad(t, x.c, x.l, x.want...)
	}
}

// TestBadEnough: P13.2: just as many requests as Requests, one fewer and one more.
func TestBadEnough(t *testing.T) {
	for _, requests := range []int{1, 2, 10, 999, 1000} {
		spreads, fails := asks(3, 1, 0), asks(3, 0, 100)
		spreads.Requests, fails.Requests = requests, requests
		for _, all := range []int{requests, requests + 1, mostRequests} {
			l := []api.Rated{rated(3, all, all), rated(2, 0, all), rated(1, all, all)}
			tellsBad(t, spreads, l, 2)
			tellsBad(t, fails, l, 2)
		}
		few := requests - 1
		l := []api.Rated{rated(3, requests, requests), rated(2, 0, few), rated(1, requests, requests), rated(4, 0, 0)}
		tellsBad(t, spreads, l)
		tellsBad(t, fails, l)
		// One of the others has too few: the low one is told as failing, but there are not Hosts.
		l = []api.Rated{rated(3, requests, requests), rated(2, 0, requests), rated(1, few, few)}
		tellsBad(t, spreads, l)
		tellsBad(t, fails, l, 2)
	}
}

// TestBadOrder: P13.2: by rate, then by Id, whatever the Ids are.
func TestBadOrder(t *testing.T) {
	l := []api.Rated{rated(7, 2, 10), rated(greatest, 1, 10), rated(0, 1, 10), rated(least, 1, 10), rated(-3, 2, 10), rated(5, 0, 10), rated(least+1, 2, 10), rated(3, 1, 10), rated(greatest-1, 3, 10), rated(4, 10, 10)}
	tellsBad(t, asks(1, 0, 50), l, 5, least, 0, 3, greatest, least+1, -3, 7, greatest-1)
	tellsBad(t, asks(1, 0, 80), l, 5, least, 0, 3, greatest, least+1, -3, 7)
	slices.Reverse(l)
	tellsBad(t, asks(1, 0, 50), l, 5, least, 0, 3, greatest, least+1, -3, 7, greatest-1)
	far := []api.Rated{rated(greatest, 1, 10), rated(2, 9, 10), rated(least, 1, 10), rated(1, 9, 10), rated(0, 1, 10), rated(8, 9, 10), rated(9, 9, 10)}
	tellsBad(t, asks(7, 1000, 0), far, least, 0, greatest)
}

// TestBadRounded: P13.2: the rate is rounded down: 1 of 3 and 3333 of 10000 have one rate, so their Ids order them, and neither is below the other.
func TestBadRounded(t *testing.T) {
	l := []api.Rated{rated(1, 10, 30), rated(2, 3333, 10000), rated(3, 100, 300), rated(4, 3333, 10000)}
	tellsBad(t, asks(1, 0, 50), l, 1, 2, 3, 4)
	tellsBad(t, asks(1, 1, 0), l)
	tellsBad(t, asks(1, 1, 0), append(l, rated(5, 3332, 10000)), 5)
	// Failing goes by the requests, not by the rate: 6666 of 10000 are 66 percent of them and more, 2 of 3 are too, but no 67.
	tellsBad(t, asks(1, 0, 67), l)
	tellsBad(t, asks(1, 0, 66), l, 1, 2, 3, 4)
	tellsBad(t, asks(1, 0, 1), []api.Rated{rated(1, 99, 100), rated(2, mostRequests-mostRequests/100, mostRequests), rated(3, mostRequests-mostRequests/100+1, mostRequests), rated(4, 100, 101)}, 1, 2)
}

// TestBadTwice: P13.2: an Id that is there twice, wherever, also where that host has not enough, refuses all.
func TestBadTwice(t *testing.T) {
	low := []api.Rated{rated(5, 10, 10), rated(2, 0, 10), rated(9, 10, 10), rated(4, 9, 10), rated(least, 10, 10), rated(greatest, 10, 10)}
	both := asks(1, 500, 50)
	tellsBad(t, both, low, 2)
	for at := range low {
		for from := range low {
			if at == from {
				continue
			}
			l := slices.Clone(low)
			l[at].Id = low[from].Id
			tellsBad(t, both, l)
			l[at].Bucket = api.Bucket{Ok: 3, All: 3}
			tellsBad(t, both, l)
			l[from].Bucket = api.Bucket{}
			tellsBad(t, both, l)
		}
	}
	tellsBad(t, both, []api.Rated{rated(2, 0, 10), rated(2, 0, 10)})
}

// TestBadBucket: P13.2: a bucket that may not be, wherever, refuses all.
func TestBadBucket(t *testing.T) {
	well := []api.Rated{rated(5, 10, 10), rated(2, 0, 10), rated(9, 10, 10), rated(4, 9, 10)}
	both := asks(1, 500, 50)
	tellsBad(t, both, well, 2)
	for at := range well {
		for _, b := range []api.Bucket{{Ok: -1, All: 10}, {Ok: 11, All: 10}, {Ok: 2, All: 1}, {Ok: 1}, {Ok: -1}, {All: -1}, {Ok: -2, All: -1}, {All: mostRequests + 1}, {Ok: greatest, All: greatest}, {All: least}, {Ok: least, All: 3}} {
			l := slices.Clone(well)
			l[at].Bucket = b
			tellsBad(t, both, l)
		}
		l := slices.Clone(well)
		l[at].Bucket = api.Bucket{}
		// With no request at all it is none of them: of the others the one at 9000 is then the lowest.
		want := 2
		if at == 1 {
			want = 4
		}
		tellsBad(t, both, l, want)
	}
}

// TestBadConfig: P13.2: a configuration that may not be tells nothing, also where what a spread goes by may be.
func TestBadConfig(t *testing.T) {
	l := []api.Rated{rated(5, 1000, 1000), rated(2, 0, 1000), rated(9, 1000, 1000), rated(4, 990, 1000)}
	tellsBad(t, asks(1, 500, 50), l, 2)
	for _, c := range []api.Config{asks(1, 500, 50), asks(4, 500, 0), asks(1, 0, 50), config.Default()} {
		for _, refused := range spoilt.Configs(c) {
			tellsBad(t, refused, l)
			tellsBad(t, refused, nil)
		}
	}
}

// TestBadMost: P13.2: as many hosts as there may be, and one more, of whom one is bad.
func TestBadMost(t *testing.T) {
	var l []api.Rated
	for id := range maxHosts {
		l = append(l, rated(id, 20, 20))
	}
	l[40].Bucket.Ok = 0
	tellsBad(t, asks(64, 7937, 0), l, 40)
	tellsBad(t, asks(64, 7938, 0), l)
	tellsBad(t, asks(64, 0, 100), l, 40)
	tellsBad(t, asks(64, 0, 100), append(l, rated(99, 20, 20)))
	tellsBad(t, asks(64, 1000, 0), append(l, rated(99, 0, 0)))
	tellsBad(t, asks(1, 0, 100), append(l, rated(40, 20, 20)))
	tellsBad(t, asks(1, 0, 100), make([]api.Rated, 5000))
	l[3].Bucket.All--
	l[3].Bucket.Ok--
	tellsBad(t, asks(64, 1000, 0), l, 40)
	l[3].Bucket = api.Bucket{Ok: 9, All: 9}
	tellsBad(t, asks(64, 1000, 0), l)
	tellsBad(t, asks(63, 1000, 0), l, 40)
	l[40].Bucket.All = 9
	tellsBad(t, asks(62, 1, 1), l)
}

// drawnHosts are some, of few requests and rates that are often alike.
func drawnHosts(r *rand.Rand) []api.Rated {
	l := make([]api.Rated, r.Intn(r.Intn(maxHosts+1)+1))
	ids, size := r.Perm(100), 1+r.Intn(40)
	for i := range l {
		all := r.Intn(size)
		l[i] = rated(ids[i]-50, all-r.Intn(all+1)/(1+r.Intn(4)), all)
	}
	return l
}

// drawnAsks is a configuration that a drawn row meets often.
func drawnAsks(r *rand.Rand) api.Config {
	c := asks(1+r.Intn(20), r.Intn(2500), r.Intn(101))
	c.Requests = 1 + r.Intn(20)
	if r.Intn(4) == 0 {
		c.Fails = 0
	}
	if r.Intn(4) == 0 {
		c.Factor = 0
	}
	return c
}

// TestBadDrawn: P13.2: drawn hosts, by the sentence told the other way round.
func TestBadDrawn(t *testing.T) {
	r := rand.New(rand.NewSource(133))
	some, sum := 0, 0
	for range 20000 {
		c, l := drawnAsks(r), drawnHosts(r)
		want := badByPages(c, l)
		tellsBad(t, c, l, want...)
		if len(want) > 1 {
			some++
		}
		sum += len(want)
	}
	if some < 4000 || sum < 20000 {
		t.Errorf("%d rows have more than one, %d in all: they ask too little", some, sum)
	}
}
