package probe_test

import (
	"testing"

	"triage/api"
	"triage/probe"
)

// forcesTo asks what is behind Force, and the move; what was handed in stays.
func forcesTo(t *testing.T, p api.Probing, how int, want api.Probing, wantMove int) {
	t.Helper()
	was := p
	got, move := probe.Force(p, how)
	if got != want || move != wantMove {
		t.Errorf("Force(%+v, %d) = %+v, %d; want %+v, %d", p, how, got, move, want, wantMove)
	}
	if p != was {
		t.Errorf("Force changed %+v to %+v", was, p)
	}
}

// TestForce: P10.2: from each to each, up and not: which move is told, and where none is.
func TestForce(t *testing.T) {
	for _, x := range []struct {
		up        bool
		from, how int
		move      int
	}{
		{true, 0, 0, 0}, {true, 0, 1, api.MDown}, {true, 0, 2, 0},
		{true, 1, 0, api.MUp}, {true, 1, 1, 0}, {true, 1, 2, api.MUp},
		{true, 2, 0, 0}, {true, 2, 1, api.MDown}, {true, 2, 2, 0},
		{false, 0, 0, 0}, {false, 0, 1, 0}, {false, 0, 2, api.MUp},
		{false, 1, 0, 0}, {false, 1, 1, 0}, {false, 1, 2, api.MUp},
		{false, 2, 0, api.MDown}, {false, 2, 1, api.MDown}, {false, 2, 2, 0},
		// From what may not be, which is never well.
		{true, 3, 0, api.MUp}, {true, 3, 1, 0}, {true, 3, 2, api.MUp},
		{false, 3, 0, 0}, {false, 3, 1, 0}, {false, 3, 2, api.MUp},
		{true, -1, 0, api.MUp}, {true, -1, 1, 0}, {true, -1, 2, api.MUp},
		{false, -1, 0, 0}, {false, -1, 1, 0}, {false, -1, 2, api.MUp},
		{true, least, 2, api.MUp}, {true, greatest, 0, api.MUp}, {true, 1<<32 + 2, 2, api.MUp},
	} {
		for _, run := range someNumbers {
			for _, wait := range someNumbers {
				p := api.Probing{Up: x.up, Run: run, Forced: x.from, Wait: wait}
				forcesTo(t, p, x.how, api.Probing{Up: x.up, Run: run, Forced: x.how, Wait: wait}, x.move)
			}
		}
	}
}

// TestForceRefused: P10.2: to what may not be: all is as it was, and nothing is told.
func TestForceRefused(t *testing.T) {
	for _, how := range forces {
		if 0 <= how && how <= 2 {
			continue
		}
		for _, from := range forces {
			for _, up := range bools {
				for _, n := range someNumbers {
					p := api.Probing{Up: up, Run: n, Forced: from, Wait: n}
					forcesTo(t, p, how, p, 0)
				}
			}
		}
	}
}

// TestForceWell: P10.2: behind it the host is what it is forced to, or what its answers say.
func TestForceWell(t *testing.T) {
	for _, from := range forces {
		for _, up := range bools {
			for how, want := range []bool{up, false, true} {
				p, _ := probe.Force(api.Probing{Up: up, Run: 1, Forced: from}, how)
				if probe.Well(p) != want {
					t.Errorf("up %v, from %d to %d: Well is %v", up, from, how, !want)
				}
			}
		}
	}
}

// TestForceTwice: P10.2: whoever is forced to what it is forced to already moves no more.
func TestForceTwice(t *testing.T) {
	for _, from := range forces {
		for _, up := range bools {
			for how := range 3 {
				p, _ := probe.Force(api.Probing{Up: up, Run: 1, Forced: from, Wait: 4}, how)
				forcesTo(t, p, how, p, 0)
			}
		}
	}
}
