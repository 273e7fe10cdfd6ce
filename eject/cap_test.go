package eject_test

import (
	"math"
	"math/big"
	"math/rand"
	"testing"

	"triage/api"
	"triage/config"
	"triage/eject"
	"triage/spoilt"
)

const (
	maxTime  = 1 << 62
	least    = math.MinInt
	greatest = math.MaxInt
)

// part is the configuration by itself, of which so much may be out.
func part(percent int, one bool) api.Config {
	c := config.Default()
	c.Eject, c.One = percent, one
	return c
}

// tellsCap asks how many may be out; what was handed in stays.
func tellsCap(t *testing.T, c api.Config, members, want int) {
	t.Helper()
	had := c
	if got := eject.Cap(c, members); got != want {
		t.Errorf("eject %d, one %v: Cap(%d) = %d; want %d", c.Eject, c.One, members, got, want)
	}
	if c != had {
		t.Errorf("Cap changed %+v", had)
	}
}

// TestCapRows: P14.1: by rows.
func TestCapRows(t *testing.T) {
	for _, x := range []struct {
		percent, members int
		without, with    int // One
	}{
		// Of none, of fewer than none, of one.
		{10, 0, 0, 0}, {10, -1, 0, 0}, {10, -10, 0, 0}, {10, -1000, 0, 0}, {10, 1, 0, 1},
		{0, 0, 0, 0}, {0, -1, 0, 0}, {0, 1, 0, 1}, {100, 0, 0, 0}, {100, -1, 0, 0}, {100, -7, 0, 0}, {100, 1, 1, 1},
		{99, 1, 0, 1}, {99, 0, 0, 0}, {1, 1, 0, 1}, {1, -1, 0, 0}, {1, -100, 0, 0},
		// So many that it is just whole, one fewer, one more.
		{10, 9, 0, 1}, {10, 10, 1, 1}, {10, 11, 1, 1}, {10, 19, 1, 1}, {10, 20, 2, 2}, {10, 21, 2, 2}, {10, 59, 5, 5}, {10, 60, 6, 6}, {10, 64, 6, 6},
		{1, 99, 0, 1}, {1, 100, 1, 1}, {1, 101, 1, 1}, {1, 199, 1, 1}, {1, 200, 2, 2},
		{50, 2, 1, 1}, {50, 3, 1, 1}, {50, 4, 2, 2}, {50, 64, 32, 32}, {50, 63, 31, 31},
		{33, 3, 0, 1}, {33, 4, 1, 1}, {33, 6, 1, 1}, {33, 7, 2, 2}, {33, 64, 21, 21}, {67, 2, 1, 1}, {67, 3, 2, 2},
		{99, 2, 1, 1}, {99, 64, 63, 63}, {99, 100, 99, 99}, {99, 101, 99, 99}, {99, 102, 100, 100},
		// The least and the most percent.
		{0, 2, 0, 1}, {0, 64, 0, 1}, {0, 1000000, 0, 1}, {100, 2, 2, 2}, {100, 64, 64, 64}, {100, 12345, 12345, 12345},
		// Far away.
		{10, least, 0, 0}, {10, least + 1, 0, 0}, {100, least, 0, 0}, {0, least, 0, 0}, {0, greatest, 0, 1}, {1, greatest, 92233720368547758, 92233720368547758},
		{50, greatest, maxTime - 1, maxTime - 1}, {100, maxTime, maxTime, maxTime}, {100, maxTime - 1, maxTime - 1, maxTime - 1}, {50, maxTime, maxTime / 2, maxTime / 2}, {99, 1 << 61, 2282784579121557012, 2282784579121557012},
		// Percent knows no number above MaxTime: it counts as none.
		{100, maxTime + 1, 0, 1}, {100, greatest, 0, 1}, {51, greatest, 0, 1}, {99, greatest, 0, 1},
	} {
		tellsCap(t, part(x.percent, false), x.members, x.without)
		tellsCap(t, part(x.percent, true), x.members, x.with)
	}
}

// capByPages counts in numbers of any size.
func capByPages(percent int, one bool, members int) int {
	if members <= 0 {
		return 0
	}
	whole := new(big.Int).Mul(big.NewInt(int64(members)), big.NewInt(int64(percent)))
	whole.Div(whole, big.NewInt(100))
	if whole.Cmp(big.NewInt(maxTime)) > 0 {
		whole.SetInt64(0)
	}
	if one {
		return int(max(whole.Int64(), 1))
	}
	return int(whole.Int64())
}

// TestCapEach: P14.1: each percent, of each number of members that a pool may have, and of some that none has.
func TestCapEach(t *testing.T) {
	far := []int{100, 101, 999, 10000, 1 << 31, 1<<32 + 1, 1 << 56, maxTime / 50, maxTime / 10, maxTime - 1, maxTime, maxTime + 1, greatest - 1, greatest, -1, -2, -100, -10000, least, least + 1}
	for percent := range 101 {
		for members := range api.MaxHosts + 2 {
			// Counted by hundredths, one member after the other.
			tellsCap(t, part(percent, false), members, members*percent/100)
			tellsCap(t, part(percent, true), members, max(members*percent/100, min(members, 1)))
		}
		for _, members := range far {
			for _, one := range []bool{false, true} {
				tellsCap(t, part(percent, one), members, capByPages(percent, one, members))
			}
		}
	}
}

// TestCapJustWhole: P14.1: the fewest members of whom one more may be out, and one fewer.
func TestCapJustWhole(t *testing.T) {
	for percent := 1; percent <= 100; percent++ {
		for _, whole := range []int{1, 2, 3, 7, 64, 99, 100, 101, 1000003, 1 << 40} {
			fewest := (100*whole + percent - 1) / percent
			for _, one := range []bool{false, true} {
				tellsCap(t, part(percent, one), fewest, whole)
			}
			tellsCap(t, part(percent, false), fewest-1, whole-1)
			if fewest > 1 {
				tellsCap(t, part(percent, true), fewest-1, max(whole-1, 1))
			}
		}
	}
}

// TestCapDrawn: P14.1: drawn numbers of any size.
func TestCapDrawn(t *testing.T) {
	r := rand.New(rand.NewSource(141))
	for range 20000 {
		percent, one := r.Intn(101), r.Intn(2) == 0
		members := int(r.Uint64()) >> r.Intn(64)
		tellsCap(t, part(percent, one), members, capByPages(percent, one, members))
	}
}

// TestCapRefused: P14.1: a configuration that may not be counts as that by itself.
func TestCapRefused(t *testing.T) {
	for _, c := range append(spoilt.Configs(part(70, false)), spoilt.Configs(part(100, true))...) {
		for _, x := range [][2]int{{-1, 0}, {0, 0}, {1, 1}, {9, 1}, {10, 1}, {19, 1}, {20, 2}, {64, 6}, {least, 0}, {maxTime, maxTime / 10}} {
			tellsCap(t, c, x[0], x[1])
			tellsRoom(t, c, x[0], 0, x[1])
			tellsRoom(t, c, x[0], x[1], 0)
			tellsRoom(t, c, x[0], x[1]-1, min(x[1], 1))
		}
	}
}

// TestCapOther: P14.1: nothing else of a configuration counts.
func TestCapOther(t *testing.T) {
	c := part(30, false)
	c.Panic, c.Fails, c.Hosts, c.Base, c.Fallback, c.Zone, c.Policy, c.Over, c.Errors = 0, 77, 64, 1, true, "eu", api.Ring, 1000, 0
	tellsCap(t, c, 10, 3)
	tellsCap(t, c, 3, 0)
	tellsRoom(t, c, 10, 1, 2)
}

// tellsRoom asks how many more may go; what was handed in stays.
func tellsRoom(t *testing.T, c api.Config, members, out, want int) {
	t.Helper()
	had := c
	if got := eject.Room(c, members, out); got != want {
		t.Errorf("eject %d, one %v: Room(%d, %d) = %d; want %d", c.Eject, c.One, members, out, got, want)
	}
	if c != had {
		t.Errorf("Room changed %+v", had)
	}
}

// TestRoomRows: P14.1: by rows.
func TestRoomRows(t *testing.T) {
	for _, x := range []struct {
		percent            int
		one                bool
		members, out, want int
	}{
		// 3 of 30 may be.
		{10, false, 30, 0, 3}, {10, false, 30, 1, 2}, {10, false, 30, 2, 1}, {10, false, 30, 3, 0}, {10, false, 30, 4, 0}, {10, false, 30, 30, 0}, {10, false, 30, greatest, 0}, {10, false, 30, greatest - 1, 0}, {10, false, 30, maxTime, 0},
		{10, false, 30, -1, 3}, {10, false, 30, -3, 3}, {10, false, 30, -1000, 3}, {10, false, 30, least, 3}, {10, false, 30, least + 1, 3},
		// One may be, always.
		{0, true, 5, 0, 1}, {0, true, 5, 1, 0}, {0, true, 5, 2, 0}, {0, true, 5, -1, 1}, {0, true, 1, 0, 1}, {0, true, 1, least, 1}, {0, true, 1, greatest, 0}, {0, true, 0, 0, 0}, {0, true, 0, -1, 0}, {0, true, -3, least, 0},
		// None may be.
		{0, false, 5, 0, 0}, {0, false, 5, 1, 0}, {0, false, 5, -1, 0}, {0, false, 5, least, 0}, {0, false, 5, greatest, 0}, {10, false, 9, 0, 0}, {10, false, 9, -9, 0},
		{100, true, 0, 0, 0}, {100, true, -1, -1, 0}, {100, true, least, least, 0}, {100, true, least, greatest, 0},
		// All may be.
		{100, true, 64, 0, 64}, {100, true, 64, 63, 1}, {100, true, 64, 64, 0}, {100, true, 64, 65, 0}, {100, false, 64, -64, 64},
		// Far away.
		{100, false, maxTime, 0, maxTime}, {100, false, maxTime, least, maxTime}, {100, false, maxTime, 1, maxTime - 1}, {100, false, maxTime, maxTime - 1, 1}, {100, false, maxTime, maxTime, 0}, {100, false, maxTime, maxTime + 1, 0}, {100, false, maxTime, greatest, 0},
		{50, false, greatest, greatest, 0}, {50, false, greatest, -1, maxTime - 1}, {50, false, greatest, 7, maxTime - 8},
	} {
		tellsRoom(t, part(x.percent, x.one), x.members, x.out, x.want)
	}
}

// TestRoomFills: P14.1: whoever goes one by one while there is room is as many as Cap says, whatever part that is.
func TestRoomFills(t *testing.T) {
	for percent := range 101 {
		for members := -2; members <= api.MaxHosts; members++ {
			c, out := part(percent, percent%2 == 0), 0
			most := eject.Cap(c, members)
			for eject.Room(c, members, out) > 0 && out <= api.MaxHosts {
				tellsRoom(t, c, members, out, most-out)
				out++
			}
			if out != most {
				t.Errorf("eject %d: %d of %d are out, and %d may be", percent, out, members, most)
			}
			tellsRoom(t, c, members, out+1, 0)
			tellsRoom(t, c, members, -out-1, most)
		}
	}
}
