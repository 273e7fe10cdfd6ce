package lines_test

import (
	"math/rand"
	"strconv"
	"strings"
	"testing"

	"triage/lines"
)

// noNumber asks for 0 beside false.
func noNumber(t *testing.T, s string) {
	t.Helper()
	if n, ok := lines.Number(s); n != 0 || ok {
		t.Errorf("Number(%.60q): %d, %t, want none", s, n, ok)
	}
}

// TestNumberEach: P5.2: every number from 0 to 1000000 is one, with its digits, and with noughts ahead it is none.
func TestNumberEach(t *testing.T) {
	for want := range 1000001 {
		s := strconv.Itoa(want)
		if n, ok := lines.Number(s); n != want || !ok {
			t.Fatalf("Number(%q): %d, %t", s, n, ok)
		}
		noNumber(t, "0"+s)
	}
}

// TestNumberNone: P5.2: what is above 1000000, and what is not digits alone, is none; 0 stands beside false.
func TestNumberNone(t *testing.T) {
	for _, s := range []string{
		"", " ", "-", "+", ".", "a", "-0", "-1", "+0", "+1", " 1", "1 ", "1a", "a1", "1 0", "1_000", "1,000", "1.0", "1e3", "0x1", "0b1", "0o7", "1\n", "\x001", "1\x00",
		"00", "000", "01", "007", "0000000", "00000001", "01000000",
		"1000001", "1000010", "1999999", "9999999", "10000000", "10000001", "99999999",
		"9223372036854775807", "9223372036854775808", "18446744073709551615", "18446744073709551616", "18446744073709551617", "99999999999999999999",
		"/", ":", "1/", "1:", "/1", ":1",
		"\u0661", "\uff11", "1\u0662", "\xb1", "\xff",
	} {
		noNumber(t, s)
	}
	for n := 1000001; n < 1100000; n++ {
		noNumber(t, strconv.Itoa(n))
	}
}

// TestNumberLong: P5.2 and R1: a text of many digits is none, also where its number modulo 2^64 would be small.
func TestNumberLong(t *testing.T) {
	noNumber(t, strings.Repeat("9", 1<<20))
	noNumber(t, strings.Repeat("0", 1<<20))
	noNumber(t, "1"+strings.Repeat("0", 1<<20))
	noNumber(t, "0"+strings.Repeat("1", 30))
	// 2^64 times k, and a little.
	for _, s := range []string{"18446744073709551621", "36893488147419103233", "184467440737095516165", "340282366920938463463374607431768211457"} {
		noNumber(t, s)
	}
}

// TestNumberBytes: P5.2: of all bytes the digits alone may stand ahead of a digit, behind one, and by themselves.
func TestNumberBytes(t *testing.T) {
	for c := range 256 {
		b := string([]byte{byte(c)})
		if c >= '0' && c <= '9' {
			if n, ok := lines.Number(b); n != c-'0' || !ok {
				t.Errorf("Number(%q): %d, %t", b, n, ok)
			}
			if n, ok := lines.Number("5" + b); n != 50+c-'0' || !ok {
				t.Errorf("Number(%q): %d, %t", "5"+b, n, ok)
			}
			continue
		}
		noNumber(t, b)
		noNumber(t, b+"5")
		noNumber(t, "5"+b)
		noNumber(t, "5"+b+"5")
	}
}

// names asks whether s is one.
func names(t *testing.T, s string, want bool) {
	t.Helper()
	if lines.Name(s) != want {
		t.Errorf("Name(%.60q): %t", s, !want)
	}
}

// TestName: P5.2: 1 to MaxName bytes of those that may be, and not `-` alone.
func TestName(t *testing.T) {
	for _, s := range []string{
		"a", "z", "0", "9", ".", "..", "--", "---", "-a", "a-", "-.", ".-", "-0", "a-1.b", "10.0.0.1", "eu-west-1.a", "007", "-----------.",
		"abcdefghijkl", "mnopqrstuvwx", "yz0123456789", "------------", "............",
	} {
		names(t, s, true)
	}
	for _, s := range []string{
		"", "-", " ", "a b", " a", "a ", "- ", "A", "Z", "aB", "Ab", "a_b", "a/b", "a:1", "a#b", "a\n", "\n", "\x00", "a\x00",
		"abcdefghijklm", "-------------", "0123456789012", "abcdefghijklM", "\u00e4", "\xe4", "a\u00e4", "\uff41",
	} {
		names(t, s, false)
	}
}

// TestNameLengths: P5.2: of each number of bytes; they are bytes, not runes.
func TestNameLengths(t *testing.T) {
	for n := range 40 {
		names(t, strings.Repeat("a", n), n >= 1 && n <= 12)
		names(t, strings.Repeat("-", n), n >= 2 && n <= 12)
		names(t, strings.Repeat(".", n), n >= 1 && n <= 12)
	}
	names(t, strings.Repeat("a", 1<<20), false)
}

// TestNameBytes: P5.2: each byte by itself, first, in the middle and last.
func TestNameBytes(t *testing.T) {
	for c := range 256 {
		b := string([]byte{byte(c)})
		may := strings.Contains("abcdefghijklmnopqrstuvwxyz0123456789-.", b)
		names(t, b, may && b != "-")
		names(t, b+"a", may)
		names(t, "a"+b, may)
		names(t, "a"+b+"a", may)
		names(t, "abcdefghijk"+b, may)
	}
}

// TestWordsDrawn: P5.2 against strconv and a list of bytes, of drawn texts near to numbers and names.
func TestWordsDrawn(t *testing.T) {
	const bytes = "0011223456789az-.+ A"
	r := rand.New(rand.NewSource(52))
	numbers, named := 0, 0
	for range 200000 {
		b := make([]byte, r.Intn(15))
		part := len(bytes)
		if r.Intn(2) == 0 {
			part = 13
		}
		for i := range b {
			b[i] = bytes[r.Intn(part)]
		}
		s := string(b)
		v, err := strconv.ParseUint(s, 10, 64)
		is := err == nil && v <= 1000000 && strconv.FormatUint(v, 10) == s
		n, ok := lines.Number(s)
		if ok != is || ok && n != int(v) || !ok && n != 0 {
			t.Fatalf("Number(%q): %d, %t", s, n, ok)
		}
		name := s != "" && len(s) <= 12 && s != "-" && strings.Trim(s, "abcdefghijklmnopqrstuvwxyz0123456789-.") == ""
		names(t, s, name)
		if ok {
			numbers++
		}
		if name {
			named++
		}
	}
	if numbers < 10000 || named < 10000 {
		t.Errorf("the draws are one-sided: %d, %d", numbers, named)
	}
}
