package lines_test

import (
	"math/rand"
	"slices"
	"strings"
	"testing"

	"triage/api"
	"triage/lines"
)

// same holds two rows of lines against each other; nil and empty are one.
func same(a, b []api.Line) bool {
	return slices.EqualFunc(a, b, func(x, y api.Line) bool {
		return x.No == y.No && slices.Equal(x.Words, y.Words)
	})
}

// line writes an api.Line shortly.
func line(no int, words ...string) api.Line { return api.Line{No: no, Words: words} }

// splits asks for these lines, and no error.
func splits(t *testing.T, s string, want ...api.Line) {
	t.Helper()
	got, at, e := lines.Split(s)
	if e != api.OK || at != 0 || !same(got, want) {
		t.Errorf("Split(%.60q): %v, %d, %d, want %v", s, got, at, e, want)
	}
}

// refuses asks for ErrForm at that line, and nothing beside it.
func refuses(t *testing.T, s string, at int) {
	t.Helper()
	got, no, e := lines.Split(s)
	if e != api.ErrForm || no != at || len(got) != 0 {
		t.Errorf("Split(%.60q): %v, %d, %d, want ErrForm at %d", s, got, no, e, at)
	}
}

// TestSplitLines: P5.1: lines end at line feeds, the last one maybe at the end; who has no words is left out, but counted.
func TestSplitLines(t *testing.T) {
	splits(t, "a b #c\n\n d", line(1, "a", "b"), line(3, "d")) // the chapter's example
	splits(t, "")
	splits(t, "\n")
	splits(t, "\n\n\n")
	splits(t, "a", line(1, "a"))
	splits(t, "a\n", line(1, "a"))
	splits(t, "a\n\n", line(1, "a"))
	splits(t, "\na", line(2, "a"))
	splits(t, "\n\n\na\n", line(4, "a"))
	splits(t, "a\nb", line(1, "a"), line(2, "b"))
	splits(t, "a\nb\n", line(1, "a"), line(2, "b"))
	splits(t, "a\n\n\nb\n\nc", line(1, "a"), line(4, "b"), line(6, "c"))
	splits(t, "rise 4\nfall 2\n", line(1, "rise", "4"), line(2, "fall", "2"))
}

// TestSplitWords: P5.1: words are what stands between blanks, in the line's order, as often as they stand there.
func TestSplitWords(t *testing.T) {
	splits(t, " ")
	splits(t, "    ")
	splits(t, "  \n \n   ")
	splits(t, " a", line(1, "a"))
	splits(t, "a ", line(1, "a"))
	splits(t, "  a  ", line(1, "a"))
	splits(t, "a b", line(1, "a", "b"))
	splits(t, "a    b", line(1, "a", "b"))
	splits(t, "   b  a   b ", line(1, "b", "a", "b"))
	splits(t, " \n a \n ", line(2, "a"))
	splits(t, "a,b;c=d -e \"f g\"", line(1, "a,b;c=d", "-e", "\"f", "g\""))
	splits(t, "A a 0 00", line(1, "A", "a", "0", "00"))
}

// TestSplitRemarks: P5.1: what is behind a # is left out, the # with it, wherever in its line it stands, up to the line's end.
func TestSplitRemarks(t *testing.T) {
	splits(t, "#")
	splits(t, "# a b")
	splits(t, "#\n#\n")
	splits(t, "   # a")
	splits(t, "#a\nb", line(2, "b"))
	splits(t, "a # b", line(1, "a"))
	splits(t, "a #b", line(1, "a"))
	splits(t, "a#b", line(1, "a"))
	splits(t, "a#", line(1, "a"))
	splits(t, "a #", line(1, "a"))
	splits(t, "a b#c d", line(1, "a", "b"))
	splits(t, "a#b#c", line(1, "a"))
	splits(t, "a##", line(1, "a"))
	splits(t, "##a")
	splits(t, "a#b\nc#d\ne", line(1, "a"), line(2, "c"), line(3, "e"))
	splits(t, "a b # c\n# d\ne # f\n", line(1, "a", "b"), line(3, "e"))
}

// TestSplitBytes: P5.1: of all bytes, those from 33 to 126 and blanks may stand in a line, ahead of a # and behind it.
func TestSplitBytes(t *testing.T) {
	for c := range 256 {
		b := string([]byte{byte(c)})
		switch {
		case c == '\n':
			splits(t, "a"+b+"b", line(1, "a"), line(2, "b"))
			splits(t, "#"+b+"b", line(2, "b"))
		case c == ' ':
			splits(t, "a"+b+"b", line(1, "a", "b"))
			splits(t, "a#"+b, line(1, "a"))
		case c == '#':
			splits(t, "a"+b+"b", line(1, "a"))
			splits(t, "a#"+b, line(1, "a"))
		case c >= 33 && c <= 126:
			splits(t, "a"+b+"b", line(1, "a"+b+"b"))
			splits(t, b, line(1, b))
			splits(t, "a#"+b, line(1, "a"))
		default:
			refuses(t, b, 1)
			refuses(t, "a"+b+"b", 1)
			refuses(t, "x\n "+b, 2)
			refuses(t, "x\n\n"+b+"\n", 3)
			refuses(t, "#"+b, 1)
			refuses(t, "x\ny # "+b+" z\n", 2)
			refuses(t, b+"#", 1)
		}
	}
	splits(t, "!~ !", line(1, "!~", "!"))
	refuses(t, "a\r\nb", 1)
	refuses(t, "a\n\tb", 2)
	refuses(t, "a\n\u00e4", 2)
	refuses(t, "a\n\xc3", 2)
	refuses(t, "a\u00a0b", 1) // a blank to a reader, two bytes here
	refuses(t, "a\u2028b", 1)
}

// TestSplitLong: P5.1: a line of MaxLine bytes may be, whatever they are, and one more byte may not; the line feed is none of them.
func TestSplitLong(t *testing.T) {
	word := strings.Repeat("x", api.MaxLine)
	blanks := strings.Repeat(" ", api.MaxLine)
	remark := "#" + strings.Repeat("-", api.MaxLine-1)
	splits(t, word, line(1, word))
	splits(t, word+"\n", line(1, word))
	splits(t, "a\n"+word+"\nb", line(1, "a"), line(2, word), line(3, "b"))
	splits(t, blanks)
	splits(t, remark+"\na", line(2, "a"))
	splits(t, blanks[1:]+"a", line(1, "a"))
	refuses(t, word+"x", 1)
	refuses(t, word+"x\n", 1)
	refuses(t, word+" ", 1)
	refuses(t, word+"#", 1)
	refuses(t, "a\n\n"+word+"y\nb", 3)
	refuses(t, blanks+" ", 1)
	refuses(t, blanks+"a", 1)
	refuses(t, "a\n"+remark+"-", 2)
	refuses(t, "a"+remark, 1) // short ahead of the #, but the line is not
}

// TestSplitWhole: P5.1: a text of MaxText bytes may be; one of more is refused at line 0, whatever its lines are.
func TestSplitWhole(t *testing.T) {
	feeds := strings.Repeat("\n", api.MaxText)
	splits(t, feeds)
	refuses(t, feeds+"\n", 0)
	refuses(t, feeds+"a", 0)

	pairs := strings.Repeat("a\n", api.MaxText/2)
	got, at, e := lines.Split(pairs)
	if len(got) != api.MaxText/2 || at != 0 || e != api.OK {
		t.Fatalf("%d lines, %d, %d", len(got), at, e)
	}
	for i, l := range got {
		if l.No != i+1 || !slices.Equal(l.Words, []string{"a"}) {
			t.Fatalf("line %d: %v", i+1, l)
		}
	}
	refuses(t, pairs+"b", 0)
	refuses(t, pairs+"\n", 0)

	full := strings.Repeat(strings.Repeat("x", 199)+"\n", api.MaxText/200)
	splits(t, full[:api.MaxText-1]+" ", wholeLines(20)...)
	splits(t, full, wholeLines(20)...)
	refuses(t, full+" ", 0)

	refuses(t, strings.Repeat("x", api.MaxText), 1)
	refuses(t, strings.Repeat("x", api.MaxText+1), 0)
	refuses(t, strings.Repeat("x", 1<<20), 0)
	refuses(t, "\x00"+feeds, 0)
	refuses(t, strings.Repeat("\x00", api.MaxText), 1)
}

func wholeLines(n int) []api.Line {
	var l []api.Line
	for no := range n {
		l = append(l, line(no+1, strings.Repeat("x", 199)))
	}
	return l
}

// TestSplitTwoErrors: P5.1: of two wrong lines the first one is told, of whichever kind each is.
func TestSplitTwoErrors(t *testing.T) {
	long := strings.Repeat("x", api.MaxLine+1)
	refuses(t, "a\n\x01\n\x02", 2)
	refuses(t, "a\n"+long+"\n\x02", 2)
	refuses(t, "a\n\x01\n"+long, 2)
	refuses(t, "a\n"+long+"\n"+long, 2)
	refuses(t, "a\n\n"+long+"\x7f\nb\n\x01", 3)
	refuses(t, "#\t\n\t", 1)
}

// plain splits a text byte by byte, as the chapter reads, on nothing of the package.
func plain(s string) (found []api.Line, at int, bad bool) {
	no, length, remark, word := 1, 0, false, ""
	var words []string
	endWord := func() {
		if word != "" {
			words, word = append(words, word), ""
		}
	}
	endLine := func() {
		endWord()
		if words != nil {
			found = append(found, api.Line{No: no, Words: words})
		}
		no, length, remark, words = no+1, 0, false, nil
	}
	if len(s) > 4000 {
		return nil, 0, true
	}
	for _, c := range []byte(s) {
		if c == 10 {
			endLine()
			continue
		}
		length++
		if length > 200 || c != 32 && (c < 33 || c > 126) {
			return nil, no, true
		}
		remark = remark || c == '#'
		switch {
		case remark || c == 32:
			endWord()
		default:
			word += string(rune(c))
		}
	}
	endLine()
	return found, 0, false
}

// heldAgainstPlain asks the package for what plain tells.
func heldAgainstPlain(t *testing.T, s string) {
	t.Helper()
	want, at, bad := plain(s)
	if bad {
		refuses(t, s, at)
		return
	}
	splits(t, s, want...)
}

// TestSplitAll: P5.1, of every text of at most 6 bytes out of a word's byte, a blank, a #, a line feed and one that may not be.
func TestSplitAll(t *testing.T) {
	texts := []string{""}
	for range 7 {
		var longer []string
		for _, s := range texts {
			heldAgainstPlain(t, s)
			for _, c := range []string{"a", " ", "#", "\n", "\t"} {
				longer = append(longer, s+c)
			}
		}
		texts = longer
	}
}

// TestSplitDrawn: P5.1, of long texts whose lines and whole are now and then too long.
func TestSplitDrawn(t *testing.T) {
	r := rand.New(rand.NewSource(5))
	ordinary, over, wrong := 0, 0, 0
	for range 3000 {
		s := drawnText(r)
		_, at, bad := plain(s)
		switch {
		case !bad:
			ordinary++
		case at == 0:
			over++
		default:
			wrong++
		}
		heldAgainstPlain(t, s)
	}
	if ordinary < 300 || over < 100 || wrong < 300 {
		t.Errorf("the draws are one-sided: %d, %d, %d", ordinary, over, wrong)
	}
}

// drawnText writes lines, a few of them about MaxLine bytes long, the whole at times about MaxText.
func drawnText(r *rand.Rand) string {
	var b strings.Builder
	for range r.Intn(40) {
		n := r.Intn(200)
		if r.Intn(40) == 0 {
			n = 199 + r.Intn(3)
		}
		for range n {
			switch k := r.Intn(1000); {
			case k < 200:
				b.WriteByte(' ')
			case k < 205:
				b.WriteByte('#')
			default:
				b.WriteByte(byte(33 + r.Intn(94)))
			}
		}
		if r.Intn(60) == 0 {
			b.WriteByte(byte(r.Intn(256)))
		}
		b.WriteByte('\n')
	}
	return strings.TrimSuffix(b.String(), []string{"", "\n"}[r.Intn(2)])
}
