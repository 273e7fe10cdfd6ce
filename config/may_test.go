package config_test

import (
	"math"
	"math/rand"
	"strings"
	"testing"

	"triage/api"
	"triage/config"
)

// holds asks of c that it may be, and what its text is; or that it may not be, and has none.
func holds(t *testing.T, c api.Config, may bool) {
	t.Helper()
	if got := config.May(c); got != may {
		t.Errorf("May(%v) = %v", c, got)
	}
	if got := config.Text(c); (got != "") != may {
		t.Errorf("Text(%v) = %q", c, got)
	}
}

// TestMay: P6.1: configurations as a whole.
func TestMay(t *testing.T) {
	holds(t, byItself, true)
	holds(t, other, true)
	holds(t, config.Default(), true)
	holds(t, api.Config{}, false)
	least, most := byItself, byItself
	for _, r := range numberRows {
		*r.field(&least), *r.field(&most) = r.least, r.most
	}
	holds(t, least, true)
	holds(t, most, true)
}

// TestMayNumbers: each field by itself at its bounds and beyond them.
func TestMayNumbers(t *testing.T) {
	for _, r := range numberRows {
		for _, from := range []api.Config{byItself, other} {
			for _, n := range []int{r.least, r.least + 1, r.most - 1, r.most} {
				c := from
				*r.field(&c) = n
				holds(t, c, true)
			}
			for _, n := range []int{r.least - 1, r.most + 1, -1, -r.most, -r.most - 1, 1000001, 1 << 32, 1<<32 + r.itself, math.MinInt, math.MinInt + r.itself, math.MaxInt} {
				c := from
				*r.field(&c) = n
				holds(t, c, false)
			}
		}
	}
}

// TestMayChoices: both may be.
func TestMayChoices(t *testing.T) {
	for _, r := range choiceRows {
		for _, yes := range []bool{true, false} {
			holds(t, changed(func(c *api.Config) { *r.field(c) = yes }), true)
		}
	}
}

// TestMayPolicy: three are policies.
func TestMayPolicy(t *testing.T) {
	for _, p := range []int{1, 2, 3} {
		holds(t, changed(func(c *api.Config) { c.Policy = p }), true)
	}
	for _, p := range []int{0, 4, 5, -1, -3, 1 << 32, 1<<32 + 1, math.MinInt, math.MaxInt} {
		holds(t, changed(func(c *api.Config) { c.Policy = p }), false)
	}
}

// TestMayZone: nothing and names; `-` is how nothing is written, not what it is.
func TestMayZone(t *testing.T) {
	for _, z := range []string{"", "a", "0", ".", "--", "a-b.c", strings.Repeat("z", api.MaxName)} {
		holds(t, changed(func(c *api.Config) { c.Zone = z }), true)
	}
	for _, z := range []string{"-", " ", "a b", "a ", " a", "a\n", "a\nrise 4", "a#", "#", "A", "aA", "ä", "\x00", "\xff", "a_", strings.Repeat("z", api.MaxName+1), strings.Repeat("a", 5000)} {
		holds(t, changed(func(c *api.Config) { c.Zone = z }), false)
	}
}

// TestText: P6.1: a line for each, in the table's order.
func TestText(t *testing.T) {
	for _, x := range []struct {
		c    api.Config
		want string
	}{
		{byItself, written(byItselfWords)},
		{other, written(otherWords)},
		{changed(func(c *api.Config) { c.Policy = 2 }), strings.Replace(written(byItselfWords), "round", "least", 1)},
		{changed(func(c *api.Config) { c.Zone = strings.Repeat("z", api.MaxName) }), strings.Replace(written(byItselfWords), "zone -", "zone zzzzzzzzzzzz", 1)},
	} {
		if got := config.Text(x.c); got != x.want {
			t.Errorf("Text(%v) = %q, want %q", x.c, got, x.want)
		}
	}
}

// TestTextFields: each field has its own line, and changes no other.
func TestTextFields(t *testing.T) {
	for i := range names {
		c := byItself
		take(&c, i)
		words := append([]string(nil), byItselfWords...)
		words[i] = otherWords[i]
		if got, want := config.Text(c), written(words); got != want {
			t.Errorf("%s: %q, want %q", names[i], got, want)
		}
	}
}

// TestBack: P6.2: what is written is read as it was.
func TestBack(t *testing.T) {
	draw := rand.New(rand.NewSource(62))
	for range 5000 {
		c := drawn(draw)
		holds(t, c, true)
		reads(t, config.Text(c), c)
	}
	for _, r := range numberRows {
		for n := r.least; n <= r.most; n++ {
			c := changed(func(c *api.Config) { *r.field(c) = n })
			reads(t, config.Text(c), c)
		}
	}
}

// TestReadMayBe: P6.2: whatever is read may be; what is refused tells nothing beside.
func TestReadMayBe(t *testing.T) {
	draw := rand.New(rand.NewSource(63))
	words := append(append([]string{"", "#", "-", "yes", "no", "0", "01", "11", "101", "1001", "10001", "-1", "A", "\t"}, otherWords...), byItselfWords...)
	read := 0
	for range 200000 {
		s := ""
		for range draw.Intn(4) {
			s += names[draw.Intn(len(names))] + " " + words[draw.Intn(len(words))] + "\n"
		}
		c, line, e := config.Parse(s)
		switch {
		case e == api.OK:
			read++
			if line != 0 || !config.May(c) {
				t.Fatalf("Parse(%q) = %v, %d", s, c, line)
			}
			reads(t, config.Text(c), c)
		case e != api.ErrForm || c != (api.Config{}) || line < 1 || line > 3:
			t.Fatalf("Parse(%q) = %v, %d, %d", s, c, line, e)
		}
	}
	if read < 1000 {
		t.Error("only", read, "were read")
	}
}

// drawn tells a configuration that may be.
func drawn(draw *rand.Rand) api.Config {
	var c api.Config
	for _, r := range numberRows {
		*r.field(&c) = r.least + draw.Intn(r.most-r.least+1)
	}
	for _, r := range choiceRows {
		*r.field(&c) = draw.Intn(2) == 0
	}
	c.Policy = 1 + draw.Intn(3)
	for range draw.Intn(api.MaxName + 1) {
		c.Zone += string("abcxyz0189-."[draw.Intn(12)])
	}
	if c.Zone == "-" {
		c.Zone = ""
	}
	return c
}
