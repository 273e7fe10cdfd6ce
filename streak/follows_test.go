package streak_test

import (
	"math/rand"
	"strings"
	"testing"

	"triage/streak"
)

// TestOkNever: P11.2: answers that are ok never say yes, whatever the count and the configuration.
func TestOkNever(t *testing.T) {
	configs := refused()
	for e := 0; e <= 100; e++ {
		configs = append(configs, errors(e))
	}
	for _, c := range configs {
		for _, n := range someCounts() {
			notes(t, c, n, true, 0, false)
		}
		for _, n := range []int{0, 1, c.Errors, c.Errors + 1, maxTime, greatest, -1, least} {
			for _, size := range []int{1, 2, 100} {
				tells(t, c, n, strings.Repeat("y", size), 0, 0)
			}
		}
	}
}

// yeses tells at which of the answers, 1 the first, Note says yes, where whoever is told so begins anew.
func yeses(e, n int, text string) []int {
	var at []int
	for i, ok := range row(text) {
		var yes bool
		if n, yes = streak.Note(errors(e), n, ok); yes {
			at = append(at, i+1)
			n = 0
		}
	}
	return at
}

// TestOnce: P11.2: Errors failures in a row say yes, once: the last of them; and so do as many again.
func TestOnce(t *testing.T) {
	for e := 1; e <= 100; e++ {
		for times := range 4 {
			for more := range e {
				if more > 2 && more < e-2 {
					continue
				}
				text := strings.Repeat("n", e*times+more)
				tells(t, errors(e), 0, text, more, times)
				at := yeses(e, 0, text)
				if len(at) != times {
					t.Errorf("Errors %d: %d failures say yes at %v", e, len(text), at)
				}
				for i, no := range at {
					if no != e*(i+1) {
						t.Errorf("Errors %d: %d failures say yes at %v", e, len(text), at)
					}
				}
			}
		}
	}
}

// TestNotInARow: P11.2: failures with an answer that is ok among them are not in a row.
func TestNotInARow(t *testing.T) {
	for e := 1; e <= 30; e++ {
		for ahead := range e {
			text := strings.Repeat("n", ahead) + "y" + strings.Repeat("n", e-1)
			tells(t, errors(e), 0, text, e-1, 0)
			tells(t, errors(e), 0, text+"n", 0, 1)
			tells(t, errors(e), 0, text+"y", 0, 0)
		}
	}
}

// TestNever: P11.1: with Errors 0 no failures ever say yes.
func TestNever(t *testing.T) {
	for size := range 300 {
		tells(t, errors(0), 0, strings.Repeat("n", size), size, 0)
	}
	if at := yeses(0, 0, strings.Repeat("n", 300)); len(at) != 0 {
		t.Error(at)
	}
}

// TestExample: the chapter's: Errors 2, fail, fail.
func TestExample(t *testing.T) {
	if at := yeses(2, 0, "nn"); len(at) != 1 || at[0] != 2 {
		t.Error(at)
	}
	tells(t, errors(2), 0, "nn", 0, 1)
}

// TestParts: answers in two parts, the second from the count behind the first on, are as in one.
func TestParts(t *testing.T) {
	r := rand.New(rand.NewSource(113))
	counts := someCounts()
	configs := append(refused(), errors(0), errors(1), errors(2), errors(3), errors(10), errors(100))
	sum := 0
	for _, c := range configs {
		for range 20 {
			n := counts[r.Intn(len(counts))]
			l := drawn(r, r.Intn(50), 6+r.Intn(5))
			whole, times := streak.All(c, n, l)
			for cut := range len(l) + 1 {
				middle, first := streak.All(c, n, l[:cut])
				end, second := streak.All(c, middle, l[cut:])
				if end != whole || first+second != times {
					t.Errorf("Errors %d from %d: %s cut at %d: %d, %d and %d; whole %d, %d", c.Errors, n, letters(l), cut, end, first, second, whole, times)
				}
			}
			sum += times
		}
	}
	if sum < 3000 {
		t.Errorf("only %d yeses: the draw asks too little", sum)
	}
}
