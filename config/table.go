package config

import (
	"strconv"

	"triage/api"
	"triage/lines"
)

// Kinds of values.
const (
	aNumber = 1 + iota
	aChoice // yes or no
	aPolicy
	aZone
)

// none is how a zone that is nothing is written.
const none = "-"

// row is a row of the table: a name, what its value may be, and the word for its value by itself.
type row struct {
	name        string
	kind        int
	least, most int // of a number, and of the number that stands for a policy
	itself      string
}

var table = [...]row{
	{"interval", aNumber, 10, 10000, "100"},
	{"timeout", aNumber, 1, 10000, "20"},
	{"jitter", aNumber, 0, 1000, "0"},
	{"rise", aNumber, 1, 10, "2"},
	{"fall", aNumber, 1, 10, "3"},
	{"panic", aNumber, 0, 100, "50"},
	{"over", aNumber, 100, 1000, "140"},
	{"errors", aNumber, 0, 100, "5"},
	{"sweep", aNumber, 10, 10000, "1000"},
	{"hosts", aNumber, 1, 64, "5"},
	{"requests", aNumber, 1, 1000, "100"},
	{"factor", aNumber, 0, 10000, "1900"},
	{"fails", aNumber, 0, 100, "0"},
	{"base", aNumber, 1, 10000, "3000"},
	{"eject", aNumber, 0, 100, "10"},
	{"one", aChoice, 0, 0, "yes"},
	{"slow", aNumber, 0, 10000, "0"},
	{"drain", aNumber, 1, 10000, "5000"},
	{"hostlimit", aNumber, 1, 1000, "1000"},
	{"poollimit", aNumber, 1, 10000, "10000"},
	{"policy", aPolicy, api.Round, api.Ring, "round"},
	{"zone", aZone, 0, 0, none},
	{"fallback", aChoice, 0, 0, "no"},
}

// find tells which row has that name.
func find(name string) (int, bool) {
	for i, r := range table {
		if r.name == name {
			return i, true
		}
	}
	return 0, false
}

// may tells whether what c holds for the row may be.
func (r row) may(c api.Config) bool {
	switch r.kind {
	case aNumber, aPolicy:
		n := *numberIn(&c, r.name)
		return r.least <= n && n <= r.most
	case aZone:
		return c.Zone == "" || lines.Name(c.Zone)
	}
	return true
}

// read puts the row's value into c, and tells whether the word writes one of its kind; whether that value may be, may tells.
func (r row) read(c *api.Config, word string) bool {
	known := true
	switch r.kind {
	case aNumber:
		*numberIn(c, r.name), known = lines.Number(word)
	case aChoice:
		*choiceIn(c, r.name), known = choiceOf(word)
	case aPolicy:
		*numberIn(c, r.name), known = policyOf(word)
	case aZone:
		c.Zone = zoneOf(word)
	}
	return known
}

// write tells the word for what c holds for the row.
func (r row) write(c api.Config) string {
	switch r.kind {
	case aChoice:
		return choiceWord(*choiceIn(&c, r.name))
	case aPolicy:
		return policyWord(*numberIn(&c, r.name))
	case aZone:
		return zoneWord(c.Zone)
	}
	return strconv.Itoa(*numberIn(&c, r.name))
}
