package config_test

import (
	"math/rand"
	"regexp"
	"strconv"
	"strings"
	"testing"

	"triage/api"
	"triage/config"
)

var (
	numberForm = regexp.MustCompile(`^(0|[1-9][0-9]{0,6})$`)
	nameForm   = regexp.MustCompile(`^[a-z0-9.-]{1,12}$`)
	bytesForm  = regexp.MustCompile(`^[ -~]{0,200}$`)
)

// plainRead reads as the chapter says it, by other means than the program's.
func plainRead(s string) (api.Config, int, api.Errno) {
	if len(s) > 4000 {
		return api.Config{}, 0, api.ErrForm
	}
	rows := strings.Split(s, "\n")
	for i, line := range rows {
		if !bytesForm.MatchString(line) {
			return api.Config{}, i + 1, api.ErrForm
		}
	}
	c, stood := byItself, map[string]bool{}
	for i, line := range rows {
		if at := strings.IndexByte(line, '#'); at >= 0 {
			line = line[:at]
		}
		words := strings.Fields(line)
		if len(words) == 0 {
			continue
		}
		if len(words) != 2 || stood[words[0]] || !plainPut(&c, words[0], words[1]) {
			return api.Config{}, i + 1, api.ErrForm
		}
		stood[words[0]] = true
	}
	return c, 0, api.OK
}

// plainPut puts into c what a line asks for, if there is such a name, and the word may be.
func plainPut(c *api.Config, name, word string) bool {
	for _, r := range numberRows {
		if r.name == name {
			n, _ := strconv.Atoi(word)
			*r.field(c) = n
			return numberForm.MatchString(word) && r.least <= n && n <= r.most
		}
	}
	for _, r := range choiceRows {
		if r.name == name {
			*r.field(c) = word == "yes"
			return word == "yes" || word == "no"
		}
	}
	switch name {
	case "policy":
		c.Policy = map[string]int{"round": 1, "least": 2, "ring": 3}[word]
		return c.Policy > 0
	case "zone":
		if word == "-" {
			c.Zone = ""
			return true
		}
		c.Zone = word
		return nameForm.MatchString(word)
	}
	return false
}

// TestParsePlain: P6.1: drawn texts, most with a fault or two, are read as the plain reader reads them.
func TestParsePlain(t *testing.T) {
	draw := rand.New(rand.NewSource(61))
	seen := map[api.Errno]int{}
	for range 40000 {
		s := drawnText(draw)
		c, line, e := config.Parse(s)
		want, at, err := plainRead(s)
		if c != want || line != at || e != err {
			t.Fatalf("Parse(%q) = %v, %d, %d; want %v, %d, %d", s, c, line, e, want, at, err)
		}
		seen[e]++
	}
	if seen[api.OK] < 2000 || seen[api.ErrForm] < 2000 {
		t.Error("too few of one kind:", seen)
	}
}

// drawnText tells some lines, each of which is most often as it should be.
func drawnText(draw *rand.Rand) string {
	s := ""
	for _, i := range draw.Perm(len(names))[:draw.Intn(8)] {
		name, word := names[i], otherWords[i]
		switch draw.Intn(24) {
		case 0:
			name = names[draw.Intn(len(names))]
		case 1:
			word = otherWords[draw.Intn(len(names))]
		case 2:
			word += " " + word
		case 3:
			word = "0" + word
		case 4:
			name, word = "", ""
		case 5:
			word = "#" + word
		case 6:
			word += []string{"\t", "\r", "\x80", strings.Repeat(" ", 190), "!", "0", "1"}[draw.Intn(7)]
		}
		s += []string{"", "", " ", "\n", "# \n"}[draw.Intn(5)] + name + []string{" ", " ", "   "}[draw.Intn(3)] + word + []string{"\n", "\n", " \n", "#\n", " # rise 4\n\n"}[draw.Intn(5)]
	}
	return strings.TrimSuffix(s, []string{"", "\n"}[draw.Intn(2)])
}
