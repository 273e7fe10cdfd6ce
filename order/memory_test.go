package order_test

import (
	"slices"
	"sync"
	"testing"

	"triage/order"
)

// mark is a key that no test asks for: it stands behind the length of rows that are handed in.
var mark = order.Key{A: 4711, B: -4711}

// backed lays a row ahead of marks and tells it with all its memory.
func backed(l []order.Key) (row, whole []order.Key) {
	whole = append(slices.Clone(l), mark, mark, mark)
	return whole[:len(l)], whole
}

// intact tells if a backed row is as it was.
func intact(l, whole []order.Key) bool {
	return slices.Equal(whole, append(slices.Clone(l), mark, mark, mark))
}

// spoil writes over a row and all the memory it has room for.
func spoil(l []order.Key) {
	l = l[:cap(l)]
	for i := range l {
		l[i] = order.Key{A: 99, B: 99}
	}
}

// P3.1, R2: Sort changes nothing of its row or behind it, and tells new memory.
func TestSortMemory(t *testing.T) {
	for _, l := range append(someRows(20), keys(1, 1, 2, 2, 3, 3), keys(3, 3, 2, 2, 1, 1)) {
		row, whole := backed(l)
		got := order.Sort(row)
		if !intact(l, whole) || !slices.Equal(got, slowly(l)) {
			t.Errorf("Sort(%v) = %v, and left %v", l, got, whole)
		}
		spoil(got)
		if !intact(l, whole) {
			t.Errorf("Sort(%v): its answer is the caller's memory", l)
		}
		got = order.Sort(row)
		spoil(whole)
		if !slices.Equal(got, slowly(l)) {
			t.Errorf("Sort(%v) kept the caller's memory", l)
		}
	}
}

// P3.2, R2: Merge changes neither row nor what lies behind it, and tells new memory, with nothing on a side too.
func TestMergeMemory(t *testing.T) {
	rows := append(someRows(8), keys(1, 1, 2, 2, 3, 3))
	for _, x := range rows {
		for _, y := range rows {
			l, m := slowly(x), slowly(y)
			want := slowly(append(slices.Clone(l), m...))
			a, wholeA := backed(l)
			b, wholeB := backed(m)
			got := order.Merge(a, b)
			if !slices.Equal(got, want) || !intact(l, wholeA) || !intact(m, wholeB) {
				t.Errorf("Merge(%v, %v) = %v, and left %v and %v", l, m, got, wholeA, wholeB)
			}
			spoil(got)
			if !intact(l, wholeA) || !intact(m, wholeB) {
				t.Errorf("Merge(%v, %v): its answer is the caller's memory", l, m)
			}
			got = order.Merge(a, b)
			spoil(wholeA)
			spoil(wholeB)
			if !slices.Equal(got, want) {
				t.Errorf("Merge(%v, %v) kept the caller's memory", l, m)
			}
		}
	}
}

// P3.2, R2: both rows may be pieces of one, one behind the other or one and the same.
func TestMergeOfOneMemory(t *testing.T) {
	whole := keys(2, 2, 4, 4, 1, 1, 3, 3)
	was := slices.Clone(whole)
	if got := order.Merge(whole[:2], whole[2:]); !slices.Equal(got, keys(1, 1, 2, 2, 3, 3, 4, 4)) || !slices.Equal(whole, was) {
		t.Errorf("pieces: %v, and left %v", got, whole)
	}
	if got := order.Merge(whole[:2], whole[:2]); !slices.Equal(got, keys(2, 2, 2, 2, 4, 4, 4, 4)) || !slices.Equal(whole, was) {
		t.Errorf("the same: %v, and left %v", got, whole)
	}
}

// P3.1, P3.2, R2: Find and Rising change nothing, and read nothing behind the length.
func TestAskingMemory(t *testing.T) {
	for _, l := range someRows(12) {
		row, whole := backed(l)
		rising := order.Rising(row)
		if want := order.Rising(slices.Clip(slices.Clone(l))); rising != want {
			t.Errorf("Rising(%v) = %v, with more behind it", l, rising)
		}
		for _, k := range append(keys(0, 0, 9, 9), mark) {
			n, ok := order.Find(row, k)
			if m, there := order.Find(slices.Clip(slices.Clone(l)), k); n != m || ok != there {
				t.Errorf("Find(%v, %v) = %d, %v, with more behind it", l, k, n, ok)
			}
		}
		if !intact(l, whole) {
			t.Errorf("%v became %v", l, whole)
		}
	}
	row, _ := backed(keys(1, 1))
	if n, ok := order.Find(row, mark); n != 1 || ok {
		t.Error("found behind the length", n, ok)
	}
}

// R6: what was asked before, and who else asks the same row, does not count.
func TestManyAsk(t *testing.T) {
	l := keys(5, 1, 4, 2, 3, 3, 2, 4, 1, 5)
	want := slowly(l)
	var all sync.WaitGroup
	for range 8 {
		all.Go(func() {
			for range 50 {
				got := order.Sort(l)
				if n, ok := order.Find(got, l[0]); !slices.Equal(got, want) || n != 4 || !ok || !order.Rising(got) || len(order.Merge(got, l)) != 10 {
					t.Error(got, n, ok)
				}
				spoil(got)
			}
		})
	}
	all.Wait()
}
