package config_test

import (
	"testing"

	"triage/api"
	"triage/config"
)

// numberRow is a row of the chapter's table whose values are numbers, written out anew, apart from the program's table.
type numberRow struct {
	name                string
	least, most, itself int
	field               func(c *api.Config) *int
}

var numberRows = []numberRow{
	{"interval", 10, 10000, 100, func(c *api.Config) *int { return &c.Interval }},
	{"timeout", 1, 10000, 20, func(c *api.Config) *int { return &c.Timeout }},
	{"jitter", 0, 1000, 0, func(c *api.Config) *int { return &c.Jitter }},
	{"rise", 1, 10, 2, func(c *api.Config) *int { return &c.Rise }},
	{"fall", 1, 10, 3, func(c *api.Config) *int { return &c.Fall }},
	{"panic", 0, 100, 50, func(c *api.Config) *int { return &c.Panic }},
	{"over", 100, 1000, 140, func(c *api.Config) *int { return &c.Over }},
	{"errors", 0, 100, 5, func(c *api.Config) *int { return &c.Errors }},
	{"sweep", 10, 10000, 1000, func(c *api.Config) *int { return &c.Sweep }},
	{"hosts", 1, 64, 5, func(c *api.Config) *int { return &c.Hosts }},
	{"requests", 1, 1000, 100, func(c *api.Config) *int { return &c.Requests }},
	{"factor", 0, 10000, 1900, func(c *api.Config) *int { return &c.Factor }},
	{"fails", 0, 100, 0, func(c *api.Config) *int { return &c.Fails }},
	{"base", 1, 10000, 3000, func(c *api.Config) *int { return &c.Base }},
	{"eject", 0, 100, 10, func(c *api.Config) *int { return &c.Eject }},
	{"slow", 0, 10000, 0, func(c *api.Config) *int { return &c.Slow }},
	{"drain", 1, 10000, 5000, func(c *api.Config) *int { return &c.Drain }},
	{"hostlimit", 1, 1000, 1000, func(c *api.Config) *int { return &c.HostLimit }},
	{"poollimit", 1, 10000, 10000, func(c *api.Config) *int { return &c.PoolLimit }},
}

// choiceRow is a row whose values are yes and no.
type choiceRow struct {
	name   string
	itself bool
	field  func(c *api.Config) *bool
}

var choiceRows = []choiceRow{
	{"one", true, func(c *api.Config) *bool { return &c.One }},
	{"fallback", false, func(c *api.Config) *bool { return &c.Fallback }},
}

// names is the table's first column.
var names = []string{
	"interval", "timeout", "jitter", "rise", "fall", "panic", "over", "errors", "sweep", "hosts", "requests", "factor",
	"fails", "base", "eject", "one", "slow", "drain", "hostlimit", "poollimit", "policy", "zone", "fallback",
}

// byItself is the table's last column, field by field.
var byItself = api.Config{
	Interval: 100, Timeout: 20, Jitter: 0, Rise: 2, Fall: 3, Panic: 50, Over: 140, Errors: 5, Sweep: 1000, Hosts: 5,
	Requests: 100, Factor: 1900, Fails: 0, Base: 3000, Eject: 10, One: true, Slow: 0, Drain: 5000, HostLimit: 1000,
	PoolLimit: 10000, Policy: 1, Zone: "", Fallback: false,
}

// byItselfWords is the same column as words, in the table's order.
var byItselfWords = []string{
	"100", "20", "0", "2", "3", "50", "140", "5", "1000", "5", "100", "1900", "0", "3000", "10", "yes", "0", "5000",
	"1000", "10000", "round", "-", "no",
}

// otherWords are values that may be, none of them the one by itself.
var otherWords = []string{
	"10", "1", "7", "10", "9", "0", "100", "99", "9999", "64", "1", "10000", "100", "1", "0", "no", "10000", "1",
	"1", "1", "ring", "a-b.0", "yes",
}

// other is what otherWords writes.
var other = api.Config{
	Interval: 10, Timeout: 1, Jitter: 7, Rise: 10, Fall: 9, Panic: 0, Over: 100, Errors: 99, Sweep: 9999, Hosts: 64,
	Requests: 1, Factor: 10000, Fails: 100, Base: 1, Eject: 0, One: false, Slow: 10000, Drain: 1, HostLimit: 1,
	PoolLimit: 1, Policy: 3, Zone: "a-b.0", Fallback: true,
}

// written joins each name, a blank, its word and a line feed.
func written(words []string) string {
	s := ""
	for i, name := range names {
		s += name + " " + words[i] + "\n"
	}
	return s
}

// changed is the configuration by itself, with a change.
func changed(change func(c *api.Config)) api.Config {
	c := byItself
	change(&c)
	return c
}

// reads asks that s is read as want.
func reads(t *testing.T, s string, want api.Config) {
	t.Helper()
	if c, line, e := config.Parse(s); c != want || line != 0 || e != api.OK {
		t.Errorf("Parse(%q) = %v, %d, %d; want %v", s, c, line, e, want)
	}
}

// refuses asks that s is refused at that line, and that nothing is told beside.
func refuses(t *testing.T, s string, at int) {
	t.Helper()
	if c, line, e := config.Parse(s); c != (api.Config{}) || line != at || e != api.ErrForm {
		t.Errorf("Parse(%q) = %v, %d, %d; want nothing, %d, ErrForm", s, c, line, e, at)
	}
}
