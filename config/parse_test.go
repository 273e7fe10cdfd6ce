package config_test

import (
	"math/rand"
	"strconv"
	"strings"
	"testing"

	"triage/api"
	"triage/config"
)

// TestDefault: P6.1: each by itself.
func TestDefault(t *testing.T) {
	if c := config.Default(); c != byItself {
		t.Errorf("Default() = %v, want %v", c, byItself)
	}
	for _, r := range numberRows {
		c := config.Default()
		if got := *r.field(&c); got != r.itself {
			t.Errorf("%s by itself is %d, want %d", r.name, got, r.itself)
		}
	}
	for _, r := range choiceRows {
		c := config.Default()
		if got := *r.field(&c); got != r.itself {
			t.Errorf("%s by itself is %v, want %v", r.name, got, r.itself)
		}
	}
}

// TestDefaultIsOwn: R2, R6: what a caller does with one answer shows in no other.
func TestDefaultIsOwn(t *testing.T) {
	c := config.Default()
	c = other
	if c == config.Default() || config.Default() != byItself {
		t.Error("Default is changed through its answer")
	}
	reads(t, written(otherWords), other)
	reads(t, "", byItself)
}

// TestParseExample: the chapter's example.
func TestParseExample(t *testing.T) {
	reads(t, "rise 4", changed(func(c *api.Config) { c.Rise = 4 }))
}

// TestParseNothing: P6.1: where all lack, all are by themselves.
func TestParseNothing(t *testing.T) {
	for _, s := range []string{
		"", "\n", "\n\n\n", " ", "   \n  ", "#", "# rise 4", "  # rise 4\n#fall 9 9 9\n\n   #", "#rise 4\n",
		strings.Repeat("\n", api.MaxText), strings.Repeat(" ", api.MaxLine),
	} {
		reads(t, s, byItself)
	}
}

// TestParseLayout: blanks, comments and the last line feed make no difference.
func TestParseLayout(t *testing.T) {
	want := changed(func(c *api.Config) { c.Rise, c.Zone = 4, "b" })
	for _, s := range []string{
		"rise 4\nzone b", "rise 4\nzone b\n", "\n\n  rise   4  \n\n zone b #zone c\n", "rise 4#5\nzone b# 6 7",
		"# first\nrise 4 # four\n# zone z\nzone b", "zone b\nrise 4",
	} {
		reads(t, s, want)
	}
}

// TestParseNumbers: for each number the least and the greatest that may be, what is by itself, one less, one more, and other ways to write them.
func TestParseNumbers(t *testing.T) {
	for _, r := range numberRows {
		for _, n := range []int{r.least, r.least + 1, r.itself, (r.least + r.most) / 2, r.most - 1, r.most} {
			want := changed(func(c *api.Config) { *r.field(c) = n })
			reads(t, r.name+" "+strconv.Itoa(n), want)
			refuses(t, r.name+" 0"+strconv.Itoa(n), 1)
			refuses(t, r.name+" +"+strconv.Itoa(n), 1)
			refuses(t, r.name+" -"+strconv.Itoa(n), 1)
			refuses(t, r.name+" "+strconv.Itoa(n)+".", 1)
		}
		for _, word := range []string{
			strconv.Itoa(r.least - 1), strconv.Itoa(r.most + 1), strconv.Itoa(r.most * 10), "1000000", "1000001",
			"18446744073709551626", "9223372036854775807", "-", "-1", "x", "1x", "x1", "0x10", "1e2", "1.0", "00", "yes", "no", "round", r.name,
		} {
			refuses(t, r.name+" "+word, 1)
		}
	}
}

// TestParseEachNumber: every number from 0 to beyond the greatest, of each name.
func TestParseEachNumber(t *testing.T) {
	for _, r := range numberRows {
		for n := range 10012 {
			c, line, e := config.Parse(r.name + " " + strconv.Itoa(n))
			want, at, err := changed(func(c *api.Config) { *r.field(c) = n }), 0, api.OK
			if n < r.least || n > r.most {
				want, at, err = api.Config{}, 1, api.ErrForm
			}
			if c != want || line != at || e != err {
				t.Fatalf("%s %d: %v, %d, %d", r.name, n, c, line, e)
			}
		}
	}
}

// TestParseChoices: yes, no and other words.
func TestParseChoices(t *testing.T) {
	for _, r := range choiceRows {
		reads(t, r.name+" yes", changed(func(c *api.Config) { *r.field(c) = true }))
		reads(t, r.name+" no", changed(func(c *api.Config) { *r.field(c) = false }))
		for _, word := range []string{"y", "n", "Yes", "YES", "No", "NO", "yess", "noo", "ye", "0", "1", "true", "false", "on", "off", "-", "round", "yes,", "yesno"} {
			refuses(t, r.name+" "+word, 1)
		}
	}
}

// TestParsePolicies: round, least, ring and other words.
func TestParsePolicies(t *testing.T) {
	for i, word := range []string{"round", "least", "ring"} {
		reads(t, "policy "+word, changed(func(c *api.Config) { c.Policy = i + 1 }))
	}
	for _, word := range []string{"Round", "LEAST", "rinG", "roun", "rounds", "rings", "0", "1", "2", "3", "4", "-", "yes", "no", "random", "round,least"} {
		refuses(t, "policy "+word, 1)
	}
}

// TestParseZones: names, nothing, and what is no name.
func TestParseZones(t *testing.T) {
	for _, word := range []string{"a", "z", "0", "9", ".", "a.b", "--", "-a", "a-", ".-.", "yes", "zone", "rise", "1000001", strings.Repeat("z", api.MaxName), strings.Repeat("-", api.MaxName)} {
		reads(t, "zone "+word, changed(func(c *api.Config) { c.Zone = word }))
	}
	reads(t, "zone -", byItself)
	for _, word := range []string{strings.Repeat("z", api.MaxName+1), strings.Repeat("-", api.MaxName+1), strings.Repeat("z", 150), "A", "aB", "Z9", "a_b", "a/b", "a:b", "a,b", "*", "\"\"", "~"} {
		refuses(t, "zone "+word, 1)
	}
	for b := range 256 {
		word := "a" + string([]byte{byte(b)})
		switch {
		case 'a' <= b && b <= 'z', '0' <= b && b <= '9', b == '-', b == '.':
			reads(t, "zone "+word, changed(func(c *api.Config) { c.Zone = word }))
		case b == ' ', b == '#', b == '\n':
			reads(t, "zone "+word, changed(func(c *api.Config) { c.Zone = "a" }))
		default:
			refuses(t, "zone "+word, 1)
		}
	}
}

// TestParseWords: a line has just two words.
func TestParseWords(t *testing.T) {
	for i, name := range names {
		word := otherWords[i]
		for _, line := range []string{name, name + " ", name + " #" + word, name + " " + word + " " + word, name + " " + word + " x", name + word, name + "=" + word, name + ":" + word, name + " = " + word, word + " " + name} {
			refuses(t, line, 1)
			refuses(t, "\n\n"+line+"\n\n", 3)
		}
	}
	refuses(t, strings.Repeat("a ", 100), 1)
	refuses(t, "zone a b c d e f", 1)
}

// TestParseNames: a name that is none of the table.
func TestParseNames(t *testing.T) {
	for i, name := range names {
		for _, wrong := range []string{
			strings.ToUpper(name), strings.ToUpper(name[:1]) + name[1:], name + "s", name + "e", name + ".", "-" + name, name[:len(name)-1], name[1:], name + name,
		} {
			refuses(t, wrong+" "+otherWords[i], 1)
		}
	}
	for _, wrong := range []string{"none", "-", "0", "id", "weight", "Interval", "HostLimit", "host-limit", "pool", "limit", "yes"} {
		refuses(t, wrong+" 1", 1)
		refuses(t, "rise 4\n"+wrong+" 1\nfall 4", 2)
	}
}

// TestParseTwice: a name that stood before, whatever its values are.
func TestParseTwice(t *testing.T) {
	for i, name := range names {
		for _, first := range []string{byItselfWords[i], otherWords[i]} {
			for _, second := range []string{byItselfWords[i], otherWords[i], "wrong!"} {
				refuses(t, name+" "+first+"\n"+name+" "+second, 2)
				refuses(t, "# x\n"+name+" "+first+"\n\n\n  "+name+" "+second+"\n", 5)
			}
		}
		refuses(t, written(otherWords)+name+" "+otherWords[i], len(names)+1)
		refuses(t, name+" "+byItselfWords[i]+"\n"+written(byItselfWords), i+2)
	}
}

// TestParseFirst: of several errors the first line's is told, but Split's is ahead of all.
func TestParseFirst(t *testing.T) {
	long := strings.Repeat("#", api.MaxLine+1)
	for _, x := range []struct {
		s  string
		at int
	}{
		{"rise 0\nfall 0", 1},
		{"rise 1\nfall 0\nzone A", 2},
		{"none 1\nrise 1 1\nrise", 1},
		{"rise 1\nrise 1\nnone 1", 2},
		{"\nrise\n\nnone 1", 2},
		{"rise 99\nfall\t3", 2},
		{"fall\t3\nrise 99", 1},
		{"rise\nrise 4\nrise 4\n\n\x00", 5},
		{"rise 4\nrise 5\n" + long, 3},
		{long + "\nrise 4\nrise 5", 1},
		{"zone \x7f\nrise\nzone \xc3\xa4", 1},
		{"rise 99\n#\r\nfall 99\n\x01", 2},
		{"rise 99\n" + strings.Repeat("\n", api.MaxText-8), 1},
		{"rise 99\n" + strings.Repeat("\n", api.MaxText-7), 0},
		{"\x00\nrise 99\n" + strings.Repeat("\n", api.MaxText), 0},
	} {
		refuses(t, x.s, x.at)
	}
}

// TestParseLength: texts and lines of the greatest length, and of one byte more.
func TestParseLength(t *testing.T) {
	want := changed(func(c *api.Config) { c.Fall = 7 })
	for _, pad := range []string{"\n", "#\n", "          \n"} {
		s := strings.Repeat(pad, api.MaxText/len(pad))
		s = s[:api.MaxText-len("\nfall 7")] + "\nfall 7"
		if len(s) != api.MaxText {
			t.Fatal(len(s))
		}
		reads(t, s, want)
		refuses(t, s+"\n", 0)
		refuses(t, "\n"+s, 0)
	}
	for _, s := range []string{
		"fall 7" + strings.Repeat(" ", api.MaxLine-6),
		"fall 7#" + strings.Repeat("#", api.MaxLine-7),
		strings.Repeat(" ", api.MaxLine-6) + "fall 7",
		"fall" + strings.Repeat(" ", api.MaxLine-5) + "7",
	} {
		reads(t, s, want)
		refuses(t, s+" ", 1)
		refuses(t, "\n"+s+"#", 2)
	}
}

// TestParseOrder: the names in any order, any of them lacking.
func TestParseOrder(t *testing.T) {
	draw := rand.New(rand.NewSource(6))
	for range 2000 {
		s, want := "", byItself
		for _, i := range draw.Perm(len(names))[:draw.Intn(len(names)+1)] {
			s += names[i] + " " + otherWords[i] + "\n"
			take(&want, i)
		}
		reads(t, s, want)
	}
}

// TestParseLacks: each name that lacks, and each that stands alone.
func TestParseLacks(t *testing.T) {
	for i := range names {
		lines := strings.SplitAfter(written(otherWords), "\n")
		lacks, alone := other, byItself
		give(&lacks, i)
		take(&alone, i)
		reads(t, lines[i], alone)
		lines[i] = ""
		reads(t, strings.Join(lines, ""), lacks)
		lines[i] = "# none\n"
		reads(t, strings.Join(lines, ""), lacks)
	}
}

// take puts into c what the i-th of otherWords writes, give what is by itself.
func take(c *api.Config, i int) { move(c, other, names[i]) }
func give(c *api.Config, i int) { move(c, byItself, names[i]) }

func move(c *api.Config, from api.Config, name string) {
	for _, r := range numberRows {
		if r.name == name {
			*r.field(c) = *r.field(&from)
		}
	}
	for _, r := range choiceRows {
		if r.name == name {
			*r.field(c) = *r.field(&from)
		}
	}
	switch name {
	case "policy":
		c.Policy = from.Policy
	case "zone":
		c.Zone = from.Zone
	}
}
