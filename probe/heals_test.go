package probe_test

import (
	"math/rand"
	"strings"
	"testing"

	"triage/api"
	"triage/config"
	"triage/probe"
)

// answers gives it so many answers in a row, each to a probe that it waited for, and tells which moves were told.
func answers(c api.Config, p api.Probing, ok bool, n int) (api.Probing, []int) {
	var moves []int
	for i := range n {
		var move int
		p, move = probe.End(c, probe.Begin(p, i+1), ok)
		if move != 0 {
			moves = append(moves, move)
		}
	}
	return p, moves
}

// starts are hosts that any answers may have made, and that none did; not forced.
func starts() []api.Probing {
	var l []api.Probing
	for _, up := range bools {
		for run := -2; run <= 12; run++ {
			l = append(l, api.Probing{Up: up, Run: run}, api.Probing{Up: up, Run: run, Wait: 5})
		}
		for _, n := range someNumbers {
			l = append(l, api.Probing{Up: up, Run: n, Wait: n})
		}
	}
	return l
}

// eachTurns gives so many answers of that kind as Rise and Fall say, to each that starts, with each Rise and Fall: it is well just if they are ok, and stays so.
func eachTurns(t *testing.T, ok bool) {
	t.Helper()
	for rise := 1; rise <= 10; rise++ {
		for fall := 1; fall <= 10; fall++ {
			c := counts(rise, fall)
			for _, from := range starts() {
				p, moves := answers(c, from, ok, turnsAt(!ok, rise, fall))
				told(t, c, from, p, moves, ok)
				p, moves = answers(c, p, ok, 25)
				told(t, c, api.Probing{Up: ok}, p, moves, ok)
			}
		}
	}
}

// TestHeals: P10.4: Rise answers in a row, and it is well, whatever it was; and it stays so.
func TestHeals(t *testing.T) {
	eachTurns(t, true)
}

// TestFails: P10.2: and Fall failures in a row, and it is not.
func TestFails(t *testing.T) {
	eachTurns(t, false)
}

// told asks whether p is well or not, and whether the one move, or none, was told since from.
func told(t *testing.T, c api.Config, from, p api.Probing, moves []int, well bool) {
	t.Helper()
	if probe.Well(p) != well || p != (api.Probing{Up: well}) {
		t.Errorf("Rise %d, Fall %d: from %+v: %+v", c.Rise, c.Fall, from, p)
	}
	var want []int
	if from.Up != well {
		want = []int{api.MDown}
		if well {
			want = []int{api.MUp}
		}
	}
	if len(moves) != len(want) || len(want) == 1 && moves[0] != want[0] {
		t.Errorf("Rise %d, Fall %d: from %+v: moves %v; want %v", c.Rise, c.Fall, from, moves, want)
	}
}

// TestNotSooner: one answer fewer than Rise, or failure fewer than Fall, and it is what it was.
func TestNotSooner(t *testing.T) {
	for n := 1; n <= 10; n++ {
		for other := 1; other <= 10; other++ {
			p, moves := answers(counts(other, n), probe.New(), false, n-1)
			if !probe.Well(p) || p.Run != n-1 || len(moves) != 0 {
				t.Errorf("Fall %d: %+v, %v", n, p, moves)
			}
			p, moves = answers(counts(n, other), api.Probing{}, true, n-1)
			if probe.Well(p) || p.Run != n-1 || len(moves) != 0 {
				t.Errorf("Rise %d: %+v, %v", n, p, moves)
			}
		}
	}
}

// TestExample: the chapter's: of a new one, Fall failures.
func TestExample(t *testing.T) {
	c := config.Default()
	p, moves := answers(c, probe.New(), false, c.Fall)
	if p != (api.Probing{}) || len(moves) != 1 || moves[0] != api.MDown {
		t.Errorf("%+v, %v", p, moves)
	}
}

// record is what answers were given since it last turned: "y" and "n".
type record struct {
	up   bool
	text string
}

// note writes an answer down; it tells if it turns by it: if the last ones are all against what it is, as many as must be.
func (r *record) note(rise, fall int, ok bool) bool {
	letter, against := "n", "n"
	if ok {
		letter = "y"
	}
	if !r.up {
		against = "y"
	}
	r.text += letter
	if !strings.HasSuffix(r.text, strings.Repeat(against, turnsAt(r.up, rise, fall))) {
		return false
	}
	r.up, r.text = !r.up, ""
	return true
}

// TestAnswers: P10.2, P10.4: long rows of answers, held against the letters that were written down.
func TestAnswers(t *testing.T) {
	r := rand.New(rand.NewSource(104))
	turns := 0
	for range 3000 {
		rise, fall := 1+r.Intn(10), 1+r.Intn(10)
		c := counts(rise, fall)
		often := 1 + r.Intn(9)
		p, plain := probe.New(), record{up: true}
		for i := range 100 {
			ok := r.Intn(10) < often
			want := 0
			if plain.note(rise, fall, ok) {
				turns++
				want = api.MDown
				if plain.up {
					want = api.MUp
				}
			}
			var move int
			p, move = probe.End(c, probe.Begin(p, i), ok)
			if move != want || probe.Well(p) != plain.up {
				t.Fatalf("Rise %d, Fall %d: %+v, %d; want %v, %d", rise, fall, p, move, plain.up, want)
			}
		}
	}
	if turns < 5000 {
		t.Errorf("only %d turns: the draw asks too little", turns)
	}
}

// TestForcedStays: whoever is forced is what it is forced to, whatever it answers, and nothing is told; its answers count on.
func TestForcedStays(t *testing.T) {
	r := rand.New(rand.NewSource(105))
	for range 3000 {
		rise, fall := 1+r.Intn(10), 1+r.Intn(10)
		c := counts(rise, fall)
		free := probe.New()
		for i := range r.Intn(20) {
			free, _ = probe.End(c, probe.Begin(free, i), r.Intn(2) == 0)
		}
		how := 1 + r.Intn(2)
		forced, _ := probe.Force(free, how)
		often := 1 + r.Intn(9)
		for i := range 40 {
			ok := r.Intn(10) < often
			var move int
			free, _ = probe.End(c, probe.Begin(free, i), ok)
			forced, move = probe.End(c, probe.Begin(forced, i), ok)
			if move != 0 || probe.Well(forced) != (how == 2) || forced.Forced != how {
				t.Fatalf("forced to %d: %+v, %d", how, forced, move)
			}
			if forced.Up != free.Up || forced.Run != free.Run || forced.Wait != 0 {
				t.Fatalf("forced to %d: %+v; not forced it were %+v", how, forced, free)
			}
		}
		loose(t, forced, free)
	}
}

// loose lets one that is forced loose: it is what its answers made of it, and moves if that is another.
func loose(t *testing.T, forced, free api.Probing) {
	t.Helper()
	want := 0
	if free.Up != probe.Well(forced) {
		want = api.MDown
		if free.Up {
			want = api.MUp
		}
	}
	got, move := probe.Force(forced, 0)
	if got != free || move != want || probe.Well(got) != free.Up {
		t.Fatalf("%+v let loose: %+v, %d; want %+v, %d", forced, got, move, free, want)
	}
}

// TestForcedAnswers: so many answers as Rise and Fall say turn one that is forced, too, once it is let loose.
func TestForcedAnswers(t *testing.T) {
	for rise := 1; rise <= 10; rise++ {
		for fall := 1; fall <= 10; fall++ {
			c := counts(rise, fall)
			for how := 1; how <= 2; how++ {
				p, _ := probe.Force(probe.New(), how)
				p, moves := answers(c, p, false, fall)
				if p != (api.Probing{Forced: how}) || len(moves) != 0 {
					t.Errorf("Fall %d, forced to %d: %+v, %v", fall, how, p, moves)
				}
				loose(t, p, api.Probing{})
				p, moves = answers(c, p, true, rise)
				if p != (api.Probing{Up: true, Forced: how}) || len(moves) != 0 {
					t.Errorf("Rise %d, forced to %d: %+v, %v", rise, how, p, moves)
				}
				loose(t, p, probe.New())
			}
		}
	}
}
