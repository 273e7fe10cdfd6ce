package turn_test

import (
	"math/rand"
	"slices"
	"strings"
	"testing"

	"triage/turn"
)

// parts goes through the whole and tells the texts; the numbers must be 0, 1, 2 ..
func parts(t *testing.T, s string, sep byte) []string {
	t.Helper()
	var l []string
	for no, part := range turn.Runs(s, sep) {
		if no != len(l) {
			t.Errorf("Runs(%q, %q): part %d has the number %d", s, sep, len(l), no)
		}
		l = append(l, part)
	}
	return l
}

// TestRunsParts: P4.1: the parts between the separators, numbered from 0 on, empty ones too.
func TestRunsParts(t *testing.T) {
	for _, x := range []struct {
		s    string
		sep  byte
		want []string
	}{
		{"a,,b", ',', []string{"a", "", "b"}}, // the chapter's example
		{"", ',', []string{""}},
		{"abc", ',', []string{"abc"}},
		{"a,b", ',', []string{"a", "b"}},
		{"ab,cde,f", ',', []string{"ab", "cde", "f"}},
		{",", ',', []string{"", ""}},
		{",,,", ',', []string{"", "", "", ""}},
		{",a", ',', []string{"", "a"}},
		{"a,", ',', []string{"a", ""}},
		{",,a,,", ',', []string{"", "", "a", "", ""}},
		{"one\ntwo\n", '\n', []string{"one", "two", ""}},
		{" a  b ", ' ', []string{"", "a", "", "b", ""}},
		{"a.b", ',', []string{"a.b"}},
	} {
		if got := parts(t, x.s, x.sep); !slices.Equal(got, x.want) {
			t.Errorf("Runs(%q, %q): %q, want %q", x.s, x.sep, got, x.want)
		}
	}
}

// TestRunsBytes: P4.1 speaks of bytes sep: 0, 255 and bytes inside a rune are separators as any other, and texts need be no runes.
func TestRunsBytes(t *testing.T) {
	for _, x := range []struct {
		s    string
		sep  byte
		want []string
	}{
		{"a\x00b\x00", 0, []string{"a", "b", ""}},
		{"\xff\xffz\xff", 255, []string{"", "", "z", ""}},
		{"aéb", 0xc3, []string{"a", "\xa9b"}},
		{"aéb", 0xa9, []string{"a\xc3", "b"}},
		{"aéb", 0xe9, []string{"aéb"}},
		{"\x80x\x80\x80", 0x80, []string{"", "x", "", ""}},
		{"\u0080", 0x80, []string{"\xc2", ""}},
		{"\xc3,\xa9", ',', []string{"\xc3", "\xa9"}},
		{"\x00\x00", ',', []string{"\x00\x00"}},
	} {
		if got := parts(t, x.s, x.sep); !slices.Equal(got, x.want) {
			t.Errorf("Runs(%q, %q): %q, want %q", x.s, x.sep, got, x.want)
		}
	}
}

// cut is P4.1's sentence byte by byte: each separator begins a new part.
func cut(s string, sep byte) []string {
	l := []string{""}
	for i := 0; i < len(s); i++ {
		if s[i] == sep {
			l = append(l, "")
		} else {
			l[len(l)-1] += string([]byte{s[i]})
		}
	}
	return l
}

// TestRunsAny: P4.1 for any text and any separator, against the text cut byte by byte and put together again.
func TestRunsAny(t *testing.T) {
	r := rand.New(rand.NewSource(44))
	for i := range 4000 {
		wide := 1 + r.Intn(4)
		if i%4 == 0 {
			wide = 256
		}
		b := make([]byte, r.Intn(30))
		for k := range b {
			b[k] = byte(255 - r.Intn(wide))
		}
		s, sep := string(b), byte(255-r.Intn(wide))
		got := parts(t, s, sep)
		if !slices.Equal(got, cut(s, sep)) {
			t.Errorf("Runs(%q, %d): %q", s, sep, got)
		}
		if strings.Join(got, string([]byte{sep})) != s {
			t.Errorf("Runs(%q, %d) does not join to it: %q", s, sep, got)
		}
	}
}

// TestRunsLong: a great many parts, and a great one.
func TestRunsLong(t *testing.T) {
	const n = 200000
	if got := parts(t, strings.Repeat(",", n), ','); len(got) != n+1 || strings.Join(got, "") != "" {
		t.Error(len(got))
	}
	if got := parts(t, strings.Repeat("a", n)+","+strings.Repeat("b", n), ','); len(got) != 2 || len(got[0]) != n || len(got[1]) != n {
		t.Error(len(got))
	}
}
