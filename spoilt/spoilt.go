// Package spoilt makes configurations that may not be, for the tests of the layers that take one.
package spoilt

import (
	"math"

	"triage/api"
)

// Configs tells a configuration of nothing, and c with one field after the other just below and just above what may be, and far from it. What c has else stays, so that a call that heeds it shows.
func Configs(c api.Config) []api.Config {
	l := []api.Config{{}}
	for i := range fields(&c) {
		for far := range 4 {
			next := c
			row := fields(&next)[i]
			*row.at = []int{row.least - 1, row.most + 1, math.MinInt, math.MaxInt}[far]
			l = append(l, next)
		}
	}
	for _, zone := range []string{"-", "EU", "a b", "a#", "abcdefghijklm"} {
		next := c
		next.Zone = zone
		l = append(l, next)
	}
	return l
}

// field is where a number stands, and the least and the most that it may be.
type field struct {
	at          *int
	least, most int
}

func fields(c *api.Config) []field {
	return []field{
		{&c.Interval, 10, 10000},
		{&c.Timeout, 1, 10000},
		{&c.Jitter, 0, 1000},
		{&c.Rise, 1, 10},
		{&c.Fall, 1, 10},
		{&c.Panic, 0, 100},
		{&c.Over, 100, 1000},
		{&c.Errors, 0, 100},
		{&c.Sweep, 10, 10000},
		{&c.Hosts, 1, 64},
		{&c.Requests, 1, 1000},
		{&c.Factor, 0, 10000},
		{&c.Fails, 0, 100},
		{&c.Base, 1, 10000},
		{&c.Eject, 0, 100},
		{&c.Slow, 0, 10000},
		{&c.Drain, 1, 10000},
		{&c.HostLimit, 1, 1000},
		{&c.PoolLimit, 1, 10000},
		{&c.Policy, 1, 3},
	}
}
