package hash_test

import (
	"math"
	"math/big"
	"strings"
	"testing"

	"triage/hash"
)

// row is a text and its number, worked out apart from the program.
type row struct {
	text string
	want uint64
}

func rows() []row {
	return []row{
		{"", 0xecba3df2c3383c52},
		{"a", 0xed8170de1919a24d},
		{"b", 0x4f19bff7dffc739c},
		{"ab", 0x574ca8a26194e644},
		{"ba", 0xe56969f089e82f7b},
		{"foobar", 0x6916ce8b48d4bc55},
		{"10.0.0.1:80", 0x06822506992f7a23},
		{"#", 0x385f2cf406444a7e},
		{"a#0", 0x15952d7731f3a304},
		{"\x00", 0x9091d60726574ae6},
		{"\x00\x00", 0x9bf1ace3400183e7},
		{"\x7f", 0xa6b17167919e709b},
		{"\x80", 0x1fea4f38c43951f9},
		{"\xff", 0xaf9baf0b40b2142d},
		{"\xc3\x28", 0xa831b2fff6fe3f56},
		{"\u00e9", 0x7d53f00f9e4aa91d},
		{"\ufffd", 0xbba1085a2393edf6},
	}
}

// byPages is P2.1's sentence word for word, with numbers that know no width.
func byPages(s string) uint64 {
	width := new(big.Int).Lsh(big.NewInt(1), 64)
	times := func(h *big.Int, n uint64) { h.Mul(h, new(big.Int).SetUint64(n)).Mod(h, width) }
	fold := func(h *big.Int) { h.Xor(h, new(big.Int).Rsh(h, 33)) }
	h := new(big.Int).SetUint64(0xcbf29ce484222325)
	for _, c := range []byte(s) {
		h.Xor(h, big.NewInt(int64(c)))
		times(h, 0x100000001b3)
	}
	fold(h)
	times(h, 0xff51afd7ed558ccd)
	fold(h)
	return h.Uint64()
}

// P2.1: Text by rows: the text of nothing, single bytes, order, bytes that are no runes.
func TestTextRows(t *testing.T) {
	for _, x := range rows() {
		if got := hash.Text(x.text); got != x.want {
			t.Errorf("Text(%q) = %x, want %x", x.text, got, x.want)
		}
	}
}

// P2.1: the text of nothing is the first h, finished.
func TestTextOfNothing(t *testing.T) {
	h := uint64(0xcbf29ce484222325)
	h ^= h >> 33
	h *= 0xff51afd7ed558ccd
	h ^= h >> 33
	if got := hash.Text(""); got != h {
		t.Errorf("%x, want %x", got, h)
	}
}

// P2.1: Text of each byte alone, ahead of and behind another.
func TestTextEachByte(t *testing.T) {
	for c := range 256 {
		b := string([]byte{byte(c)})
		for _, s := range []string{b, b + "x", "x" + b, b + b + b} {
			if got, want := hash.Text(s), byPages(s); got != want {
				t.Errorf("Text(%q) = %x, want %x", s, got, want)
			}
		}
	}
}

// P2.1: Text at lengths around those of words and blocks; no byte is left out.
func TestTextLengths(t *testing.T) {
	for _, n := range []int{2, 7, 8, 9, 15, 16, 17, 31, 32, 33, 63, 64, 65, 255, 256, 257, 4000} {
		s := strings.Repeat("0123456789ab", n)[:n]
		if got, want := hash.Text(s), byPages(s); got != want {
			t.Errorf("%d bytes: %x, want %x", n, got, want)
		}
		last := s[:n-1] + "!"
		if hash.Text(last) == hash.Text(s) {
			t.Errorf("%d bytes: the last one does not count", n)
		}
	}
}

// P2.1: different texts that are short have different numbers (none of these meet).
func TestTextApart(t *testing.T) {
	met := map[uint64]string{}
	for a := range 256 {
		for b := range 256 {
			s := string([]byte{byte(a), byte(b)})
			h := hash.Text(s)
			if old, there := met[h]; there {
				t.Fatalf("%q and %q: %x", old, s, h)
			}
			met[h] = s
		}
	}
}

// P2.1: With by rows: numbers below 0, the least and the greatest of them, a text of nothing.
func TestWithRows(t *testing.T) {
	for _, x := range []struct {
		s    string
		n    int
		want uint64
	}{
		{"a", 0, 0x15952d7731f3a304},
		{"a", -1, 0x80582329f8d4f3fe},
		{"", 7, 0x8f443480cbac1c8c},
		{"a", math.MaxInt, 0x2cafda518add3486},
		{"a", math.MinInt, 0xee2d66c1817f7fde},
	} {
		if got := hash.With(x.s, x.n); got != x.want {
			t.Errorf("With(%q, %d) = %x, want %x", x.s, x.n, got, x.want)
		}
	}
}

// P2.1: With is Text of the text, '#' and the digits, written out here.
func TestWithIsText(t *testing.T) {
	digits := map[int]string{
		0: "0", 1: "1", 9: "9", 10: "10", 11: "11", 99: "99", 100: "100", 1000000: "1000000",
		-1: "-1", -9: "-9", -10: "-10", -100: "-100",
		math.MaxInt:     "9223372036854775807",
		math.MaxInt - 1: "9223372036854775806",
		math.MinInt:     "-9223372036854775808",
		math.MinInt + 1: "-9223372036854775807",
		1 << 62:         "4611686018427387904",
		1 << 32:         "4294967296",
		-1 << 31:        "-2147483648",
	}
	for _, s := range []string{"", "a", "#", "a#", "a#1", "-", "\x00", "\xff", "10.0.0.1:80", strings.Repeat("x", 300)} {
		for n, d := range digits {
			if got, want := hash.With(s, n), byPages(s+"#"+d); got != want {
				t.Errorf("With(%q, %d) = %x, want %x", s, n, got, want)
			}
		}
	}
}

// P2.1: the '#' parts text and digits: moving a digit over makes another number.
func TestWithParts(t *testing.T) {
	if hash.With("a1", 2) == hash.With("a", 12) {
		t.Error("a1 2 and a 12")
	}
	if hash.With("a", 1) == hash.With("a", -1) {
		t.Error("a 1 and a -1")
	}
	if hash.With("a", 1) == hash.Text("a1") {
		t.Error("a 1 and a1")
	}
}

// P2.1: Below by rows: n below 1, n of 1, h above the greatest int.
func TestBelowRows(t *testing.T) {
	const top = math.MaxUint64
	for _, x := range []struct {
		h    uint64
		n    int
		want int
	}{
		{0, 1, 0}, {0, 5, 0}, {4, 5, 4}, {5, 5, 0}, {17, 5, 2}, {5, 1, 0}, {top, 1, 0},
		{17, 0, 0}, {17, -1, 0}, {17, -5, 0}, {top, 0, 0}, {top, -1, 0}, {17, math.MinInt, 0}, {top, math.MinInt, 0}, {1 << 63, math.MinInt, 0},
		{1<<63 - 1, math.MaxInt, 0}, {1<<63 - 2, math.MaxInt, math.MaxInt - 1},
		{1 << 63, math.MaxInt, 1}, {top, math.MaxInt, 1}, {top - 1, math.MaxInt, 0}, {top - 2, math.MaxInt, math.MaxInt - 1},
		{1 << 63, 10, 8}, {1<<63 + 1, 10, 9}, {top, 10, 5}, {top, 2, 1}, {top, 1 << 32, 1<<32 - 1}, {top, 1 << 62, 1<<62 - 1},
	} {
		if got := hash.Below(x.h, x.n); got != x.want {
			t.Errorf("Below(%d, %d) = %d, want %d", x.h, x.n, got, x.want)
		}
	}
}

// P2.1: Below against numbers that know no width, and within 0 to n - 1.
func TestBelowByPages(t *testing.T) {
	hs := []uint64{0, 1, 2, 99, 1<<31 - 1, 1 << 32, 1<<62 + 3, 1<<63 - 1, 1 << 63, 1<<63 + 1, math.MaxUint64 - 1, math.MaxUint64}
	for _, x := range rows() {
		hs = append(hs, x.want)
	}
	for _, h := range hs {
		for _, n := range []int{1, 2, 3, 7, 10, 64, 100, 10000, 1<<31 - 1, 1 << 32, 1<<62 - 1, 1 << 62, math.MaxInt - 1, math.MaxInt} {
			want := int(new(big.Int).Mod(new(big.Int).SetUint64(h), big.NewInt(int64(n))).Int64())
			if got := hash.Below(h, n); got != want {
				t.Errorf("Below(%d, %d) = %d, want %d", h, n, got, want)
			}
		}
	}
}
