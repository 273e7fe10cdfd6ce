package hash_test

import (
	"strings"
	"sync"
	"testing"

	"triage/hash"
)

// P2.2: equal texts have one number, wherever their bytes lie.
func TestTextAnyMemory(t *testing.T) {
	for _, x := range rows() {
		around := "<<" + x.text + ">>"
		inside := around[2 : 2+len(x.text)]
		joined := strings.Join(strings.Split(x.text, ""), "")
		for _, s := range []string{strings.Clone(x.text), string([]byte(x.text)), inside, joined} {
			if got := hash.Text(s); got != x.want {
				t.Errorf("Text(%q) = %x, want %x", s, got, x.want)
			}
		}
		if hash.With(inside, 3) != hash.With(x.text, 3) {
			t.Errorf("With(%q, 3) hangs on where it lies", x.text)
		}
	}
}

// P2.2: what was asked before, and how often, does not count.
func TestTextAnyOrder(t *testing.T) {
	list := rows()
	for range 3 {
		for i := range list {
			x := list[len(list)-1-i]
			hash.With(x.text, i)
			hash.Text("something else")
			hash.Below(x.want, i)
			if got := hash.Text(x.text); got != x.want {
				t.Errorf("Text(%q) = %x, want %x", x.text, got, x.want)
			}
		}
	}
}

// P2.2: nor who else asks at the same time.
func TestTextManyAsk(t *testing.T) {
	var all sync.WaitGroup
	for n := range 8 {
		all.Go(func() {
			for _, x := range rows() {
				want := byPages(x.text + "#" + string(rune('0'+n)))
				if hash.Text(x.text) != x.want || hash.With(x.text, n) != want {
					t.Errorf("%q, asked by %d", x.text, n)
				}
			}
		})
	}
	all.Wait()
}
