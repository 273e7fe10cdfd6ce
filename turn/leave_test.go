package turn_test

import (
	"iter"
	"slices"
	"testing"

	"triage/turn"
)

// part is one of Runs.
type part struct {
	no   int
	text string
}

// inOne goes through Runs as a row of single things, so that the three can be tried alike.
func inOne(row iter.Seq2[int, string]) iter.Seq[part] {
	return func(yield func(part) bool) {
		row(func(no int, text string) bool { return yield(part{no, text}) })
	}
}

// stays holds P4.2 of one row: who leaves after any number of them has seen these and is asked no more, and whoever comes next sees the whole.
func stays[T comparable](t *testing.T, row iter.Seq[T], want []T) {
	t.Helper()
	for stop := 1; stop <= len(want); stop++ {
		for range 2 {
			leaves(t, row, want, stop)
		}
		if got := slices.Collect(row); !slices.Equal(got, want) {
			t.Errorf("after leaving at %d: %v, want %v", stop, got, want)
		}
	}
	for range 3 {
		if got := slices.Collect(row); !slices.Equal(got, want) {
			t.Errorf("gone through again: %v, want %v", got, want)
		}
	}
}

// leaves goes through a row up to the stop-th, by the function itself: a loop would not show that it is asked again.
func leaves[T comparable](t *testing.T, row iter.Seq[T], want []T, stop int) {
	t.Helper()
	var got []T
	row(func(x T) bool {
		got = append(got, x)
		return len(got) < stop
	})
	if !slices.Equal(got, want[:stop]) {
		t.Errorf("leaving at %d: %v, want %v", stop, got, want[:stop])
	}
}

// TestLeaveTurn: P4.2 of Turn: left at the first, within the numbers up to n - 1, at n - 1, at 0, and at the last.
func TestLeaveTurn(t *testing.T) {
	for _, n := range []int{0, 1, 2, 6} {
		for from := -1; from <= n; from++ {
			stays(t, turn.Turn(n, from), round(n, from))
		}
	}
}

// TestLeaveRuns: P4.2 of Runs: left at the first, in the middle, at the last.
func TestLeaveRuns(t *testing.T) {
	for _, s := range []string{"", "abc", ",", ",,,", "a,,b", ",a,bc,", "a,b,c,d"} {
		var want []part
		for no, text := range cut(s, ',') {
			want = append(want, part{no, text})
		}
		stays(t, inOne(turn.Runs(s, ',')), want)
	}
}

// TestLeaveTimes: P4.2 of Times: left at the first, in the middle, at the last, also where that is MaxTime.
func TestLeaveTimes(t *testing.T) {
	for _, x := range []struct{ from, step, to int }{
		{5, 10, 30}, {5, 10, 25}, {5, 10, 5}, {5, 10, 4}, {5, 0, 30}, {0, 1, 6}, {end - 3, 1, end}, {0, end, end}, {end, greatest, end},
	} {
		stays(t, turn.Times(x.from, x.step, x.to), counted(x.from, x.step, x.to, 99))
	}
}

// TestLeaveByLoop: P4.2 by loops: break, return, and a label that leaves two at once.
func TestLeaveByLoop(t *testing.T) {
	row, text, times := turn.Turn(4, 2), turn.Runs("a,b,c", ','), turn.Times(1, 2, 7)
	firstPart := func() (int, string) {
		for no, s := range text {
			return no, s
		}
		return -1, "none"
	}
	for range 3 {
		if got := firstOf(2, row); !slices.Equal(got, []int{2, 3}) {
			t.Error(got)
		}
		if no, s := firstPart(); no != 0 || s != "a" {
			t.Error(no, s)
		}
		seen := 0
	both:
		for x := range row {
			for at := range times {
				seen++
				if x == 3 && at == 5 {
					break both
				}
			}
		}
		if seen != 4+3 {
			t.Error(seen)
		}
	}
}

// TestInOneAnother: P4.2: one row gone through inside itself: neither hinders the other.
func TestInOneAnother(t *testing.T) {
	row, times, text := turn.Turn(3, 1), turn.Times(2, 3, 8), turn.Runs("x,,y", ',')
	var outer, outerTimes, outerParts []int
	for x := range row {
		outer = append(outer, x)
		if got := slices.Collect(row); !slices.Equal(got, []int{1, 2, 0}) {
			t.Error(x, got)
		}
	}
	for at := range times {
		outerTimes = append(outerTimes, at)
		if got := slices.Collect(times); !slices.Equal(got, []int{2, 5, 8}) {
			t.Error(at, got)
		}
	}
	for no := range text {
		outerParts = append(outerParts, no)
		if got := slices.Collect(inOne(text)); !slices.Equal(got, []part{{0, "x"}, {1, ""}, {2, "y"}}) {
			t.Error(no, got)
		}
	}
	if !slices.Equal(outer, []int{1, 2, 0}) || !slices.Equal(outerTimes, []int{2, 5, 8}) || !slices.Equal(outerParts, []int{0, 1, 2}) {
		t.Error(outer, outerTimes, outerParts)
	}
}

// TestLeaveByPanic: P4.2: whoever leaves by a panic of its own gets that one, and the row is whole for the next.
func TestLeaveByPanic(t *testing.T) {
	row := turn.Turn(5, 3)
	func() {
		defer func() {
			if r := recover(); r != "mine" {
				t.Error(r)
			}
		}()
		for x := range row {
			if x == 4 {
				panic("mine")
			}
		}
	}()
	if got := slices.Collect(row); !slices.Equal(got, []int{3, 4, 0, 1, 2}) {
		t.Error(got)
	}
}

// TestTwoRows: R6: two rows of the same package know nothing of one another.
func TestTwoRows(t *testing.T) {
	a, b := turn.Turn(3, 0), turn.Turn(3, 2)
	for x := range a {
		if x == 1 {
			break
		}
	}
	if got := slices.Collect(b); !slices.Equal(got, []int{2, 0, 1}) {
		t.Error(got)
	}
	if got := slices.Collect(a); !slices.Equal(got, []int{0, 1, 2}) {
		t.Error(got)
	}
}
