package host_test

import (
	"math"
	"math/rand"
	"regexp"
	"strings"
	"testing"

	"triage/api"
	"triage/host"
)

// pairs makes a row of names and values, one after the other.
func pairs(words ...string) []api.Pair {
	var l []api.Pair
	for i := 0; i < len(words); i += 2 {
		l = append(l, api.Pair{Name: words[i], Val: words[i+1]})
	}
	return l
}

// made is a host that may be.
func made() api.Host {
	return api.Host{Id: 7, Addr: "10.0.0.1", Prio: 1, Zone: "eu-west", Weight: 3, Meta: pairs("canary", "no", "stage", "b.1", "tier", "2")}
}

// changed is made with something changed.
func changed(change func(h *api.Host)) api.Host {
	h := made()
	change(&h)
	return h
}

func may(t *testing.T, h api.Host, want bool) {
	t.Helper()
	if got := host.May(h); got != want {
		t.Errorf("May(%#v) = %v", h, got)
	}
}

func maySubset(t *testing.T, l []api.Pair, want bool) {
	t.Helper()
	if got := host.MaySubset(l); got != want {
		t.Errorf("MaySubset(%#v) = %v", l, got)
	}
}

// The sizes by number: the tests ask for what the pages say, not for what a constant happens to be.
const (
	maxId     = 1000000
	maxName   = 12
	maxMeta   = 6
	maxPrio   = 3
	maxWeight = 20
)

// words and noWords: texts that are words, and that are none.
func words() []string {
	return []string{
		"a", "z", "0", "9", ".", "..", "--", "---", "-a", "a-", "-.", ".-", "-0", "m5", "10.0.0.1",
		"abcdefghijkl", "012345678901", strings.Repeat("-", maxName), strings.Repeat(".", maxName),
	}
}

func noWords() []string {
	return []string{
		"-", "A", "Z", "aB", "Ba", "a b", " a", "a ", " ", "a_b", "a/b", "a:b", "`", "{", "@", "[", ",", "a\x00", "\x00", "a\n", "\na", "a\t",
		"\x7e", "\x7f", "\x80", "a\xff", "\xe1a", "ä", "aé", "\u0661", "ａ",
		"abcdefghijklm", "0123456789012", strings.Repeat("-", maxName+1), strings.Repeat("a", 256), strings.Repeat("a", 257), strings.Repeat("a", 1<<16+1),
		"abcdefghijkL", "Abcdefghijkl", "abcdef hijkl",
	}
}

// TestMayWhole: P7.1: hosts as a whole.
func TestMayWhole(t *testing.T) {
	may(t, made(), true)
	may(t, api.Host{Id: 1, Addr: "a", Weight: 1}, true)
	may(t, api.Host{Id: 1, Addr: "a", Weight: 1, Meta: []api.Pair{}}, true)
	may(t, api.Host{Id: maxId, Addr: "zzzzzzzzzzzz", Prio: maxPrio, Zone: "zzzzzzzzzzzz", Weight: maxWeight, Meta: risingPairs(maxMeta)}, true)
	may(t, api.Host{}, false)
	may(t, api.Host{Addr: "a", Weight: 1}, false)
	may(t, api.Host{Id: 1, Weight: 1}, false)
	may(t, api.Host{Id: 1, Addr: "a"}, false)
}

// TestMayNumbers: Id, Prio and Weight at their bounds, beyond them, and where fewer bits would hold them.
func TestMayNumbers(t *testing.T) {
	for _, x := range []struct {
		name        string
		field       func(h *api.Host) *int
		least, most int
	}{
		{"Id", func(h *api.Host) *int { return &h.Id }, 1, maxId},
		{"Prio", func(h *api.Host) *int { return &h.Prio }, 0, maxPrio},
		{"Weight", func(h *api.Host) *int { return &h.Weight }, 1, maxWeight},
	} {
		ask := func(n int) {
			t.Helper()
			if got := host.May(changed(func(h *api.Host) { *x.field(h) = n })); got != (x.least <= n && n <= x.most) {
				t.Errorf("May with %s %d = %v", x.name, n, got)
			}
		}
		for n := -30; n <= 30; n++ {
			ask(n)
			ask(x.least + n)
			ask(x.most + n)
		}
		for _, n := range []int{math.MinInt, math.MinInt + 1, math.MaxInt, math.MaxInt - 1, -x.most, 1 << 8, 1<<8 + 1, 1<<16 + 1, 1 << 32, 1<<32 + 1, 1<<62 + 1, -(1 << 32) + 1} {
			ask(n)
		}
	}
}

// TestMayAddr: words alone.
func TestMayAddr(t *testing.T) {
	for _, s := range words() {
		may(t, changed(func(h *api.Host) { h.Addr = s }), true)
	}
	for _, s := range append(noWords(), "") {
		may(t, changed(func(h *api.Host) { h.Addr = s }), false)
	}
}

// TestMayZone: words, and nothing.
func TestMayZone(t *testing.T) {
	for _, s := range append(words(), "") {
		may(t, changed(func(h *api.Host) { h.Zone = s }), true)
	}
	for _, s := range noWords() {
		may(t, changed(func(h *api.Host) { h.Zone = s }), false)
	}
}

// TestMayBytes: every byte alone, and at every place of a word.
func TestMayBytes(t *testing.T) {
	const of = "abcdefghijklmnopqrstuvwxyz0123456789-."
	for c := 0; c < 256; c++ {
		s := string([]byte{byte(c)})
		in := strings.Contains(of, s)
		alone := in && s != "-"
		may(t, changed(func(h *api.Host) { h.Addr = s }), alone)
		may(t, changed(func(h *api.Host) { h.Zone = s }), alone)
		maySubset(t, pairs(s, "v"), alone)
		maySubset(t, pairs("n", s), alone)
		for at := 0; at < maxName; at++ {
			long := strings.Repeat("x", at) + s + strings.Repeat("x", maxName-1-at)
			may(t, changed(func(h *api.Host) { h.Addr = long }), in)
			may(t, changed(func(h *api.Host) { h.Zone = long }), in)
			may(t, changed(func(h *api.Host) { h.Meta = pairs(long, "v") }), in)
			may(t, changed(func(h *api.Host) { h.Meta = pairs("n", long) }), in)
			maySubset(t, pairs(long, "v"), in)
			maySubset(t, pairs("n", long), in)
		}
	}
}

// risingPairs are n pairs whose names rise.
func risingPairs(n int) []api.Pair {
	var l []api.Pair
	for i := range n {
		l = append(l, api.Pair{Name: string([]byte{'a' + byte(i/26), 'a' + byte(i%26)}), Val: "v"})
	}
	return l
}

// TestMetaNumber: of none, of MaxMeta pairs, and of more.
func TestMetaNumber(t *testing.T) {
	for n := 0; n <= 300; n++ {
		may(t, changed(func(h *api.Host) { h.Meta = risingPairs(n) }), n <= maxMeta)
		maySubset(t, risingPairs(n), n <= maxMeta)
	}
	may(t, changed(func(h *api.Host) { h.Meta = nil }), true)
	may(t, changed(func(h *api.Host) { h.Meta = []api.Pair{} }), true)
	may(t, changed(func(h *api.Host) { h.Meta = risingPairs(maxMeta + 1)[:maxMeta] }), true)
	maySubset(t, nil, true)
	maySubset(t, []api.Pair{}, true)
	maySubset(t, risingPairs(maxMeta + 1)[:maxMeta], true)
}

// TestMetaOrder: the names of a host rise, byte by byte; those of a subset need not.
func TestMetaOrder(t *testing.T) {
	for _, x := range []struct {
		l    []api.Pair
		rise bool
	}{
		{pairs("a", "1", "b", "1"), true},
		{pairs("a", "2", "b", "1"), true},
		{pairs("a", "1", "aa", "1"), true},
		{pairs("a9", "1", "aa", "1"), true},
		{pairs("-a", "1", ".", "1", "0", "1", "9", "1", "a", "1", "z", "1"), true},
		{pairs("10", "1", "9", "1"), true},
		{pairs("a-", "1", "a.", "1"), true},
		{pairs("a", "1", "a", "1"), false},
		{pairs("a", "1", "a", "2"), false},
		{pairs("a", "2", "a", "1"), false},
		{pairs("b", "1", "a", "1"), false},
		{pairs("b", "1", "a", "2"), false},
		{pairs("aa", "1", "a", "1"), false},
		{pairs("9", "1", "10", "1"), false},
		{pairs("a", "1", "9", "1"), false},
		{pairs(".", "1", "-a", "1"), false},
		{pairs("b", "1", "c", "1", "a", "1"), false},
		{pairs("b", "1", "a", "1", "c", "1"), false},
		{pairs("a", "1", "c", "1", "b", "1"), false},
		{pairs("a", "1", "b", "1", "a", "1"), false},
		{pairs("a", "1", "b", "1", "c", "1", "d", "1", "e", "1", "e", "1"), false},
		{pairs("a", "1", "a", "1", "b", "1", "c", "1", "d", "1", "e", "1"), false},
		{pairs("f", "1", "e", "1", "d", "1", "c", "1", "b", "1", "a", "1"), false},
	} {
		may(t, changed(func(h *api.Host) { h.Meta = x.l }), x.rise)
		maySubset(t, x.l, true)
	}
}

// TestMetaWords: a name and a value that are words or none, in every place of the row.
func TestMetaWords(t *testing.T) {
	place := func(s string, want bool) {
		t.Helper()
		may(t, changed(func(h *api.Host) { h.Meta = pairs(s, "v") }), want)
		maySubset(t, pairs(s, "v"), want)
		for n := 1; n <= maxMeta; n++ {
			for i := range n {
				l := risingPairs(n)
				l[i].Val = s
				may(t, changed(func(h *api.Host) { h.Meta = l }), want)
				maySubset(t, l, want)
				l = risingPairs(n)
				l[i].Name = s
				maySubset(t, l, want)
				if !want {
					may(t, changed(func(h *api.Host) { h.Meta = l }), false)
				}
			}
		}
	}
	for _, s := range words() {
		place(s, true)
	}
	for _, s := range append(noWords(), "") {
		place(s, false)
	}
}

var wordForm = regexp.MustCompile(`^[a-z0-9.-]{1,12}$`)

func plainWord(s string) bool { return wordForm.MatchString(s) && s != "-" }

func plainSubset(l []api.Pair) bool {
	ok := len(l) <= maxMeta
	for _, p := range l {
		ok = ok && plainWord(p.Name) && plainWord(p.Val)
	}
	return ok
}

func plainMay(h api.Host) bool {
	ok := h.Id >= 1 && h.Id <= maxId && h.Prio >= 0 && h.Prio <= maxPrio && h.Weight >= 1 && h.Weight <= maxWeight
	ok = ok && plainWord(h.Addr) && (h.Zone == "" || plainWord(h.Zone)) && plainSubset(h.Meta)
	for i := range h.Meta {
		for j := range i {
			ok = ok && strings.Compare(h.Meta[j].Name, h.Meta[i].Name) < 0
		}
	}
	return ok
}

// TestMayDrawn: hosts of few unlike parts, so that many may be and many may not, held against the rule written out anew.
func TestMayDrawn(t *testing.T) {
	r := rand.New(rand.NewSource(7))
	yes, no := 0, 0
	for range 200000 {
		h := drawnHost(r)
		want := plainMay(h)
		if host.May(h) != want {
			t.Fatalf("May(%#v) = %v", h, !want)
		}
		maySubset(t, h.Meta, plainSubset(h.Meta))
		if want {
			yes++
		} else {
			no++
		}
	}
	if yes < 10000 || no < 10000 {
		t.Errorf("%d may be, %d may not: the draw asks too little", yes, no)
	}
}

func drawnText(r *rand.Rand) string {
	of := []string{"a", "b", "-a", "9", "a.", "ab", "--", "abcdefghijkl"}
	if r.Intn(80) == 0 {
		of = []string{"", "-", "A", "a b", "abcdefghijklm", "\xff"}
	}
	return of[r.Intn(len(of))]
}

func drawnMeta(r *rand.Rand) []api.Pair {
	var l []api.Pair
	rise := r.Intn(3) > 0
	n := r.Intn(8)
	for i := range n {
		p := api.Pair{Name: drawnText(r), Val: drawnText(r)}
		if rise {
			p.Name = string([]byte{'a' + byte(i)})
		}
		l = append(l, p)
	}
	return l
}

func drawnHost(r *rand.Rand) api.Host {
	h := api.Host{Id: 1 + r.Intn(maxId), Addr: drawnText(r), Prio: r.Intn(4), Zone: drawnText(r), Weight: 1 + r.Intn(20), Meta: drawnMeta(r)}
	switch r.Intn(30) {
	case 0:
		h.Id = r.Intn(3) - 1
	case 1:
		h.Prio = r.Intn(3) - 1
	case 2:
		h.Weight = r.Intn(3) - 1
	case 3:
		h.Id = maxId + r.Intn(3) - 1
	case 4:
		h.Prio = maxPrio + r.Intn(3) - 1
	case 5:
		h.Weight = maxWeight + r.Intn(3) - 1
	}
	return h
}
