package order_test

import (
	"math"
	"math/rand"
	"slices"
	"testing"

	"triage/order"
)

const (
	least    = math.MinInt
	greatest = math.MaxInt
)

// keys makes a row of pairs: A, B, A, B ..
func keys(n ...int) []order.Key {
	l := []order.Key{}
	for i := 0; i+1 < len(n); i += 2 {
		l = append(l, order.Key{A: n[i], B: n[i+1]})
	}
	return l
}

// ahead is P3.1's sentence word for word, kept apart from the program.
func ahead(k, l order.Key) bool {
	return k.A < l.A || (k.A == l.A && k.B < l.B)
}

// sorted is P3.1's word of a row: none is Less than the one ahead of it.
func sorted(l []order.Key) bool {
	for i := range l {
		if i > 0 && ahead(l[i], l[i-1]) {
			return false
		}
	}
	return true
}

// counted tells how often each key is there.
func counted(rows ...[]order.Key) map[order.Key]int {
	n := map[order.Key]int{}
	for _, l := range rows {
		for _, k := range l {
			n[k]++
		}
	}
	return n
}

// sameKeys tells if a row holds the keys of the others, each as often.
func sameKeys(got []order.Key, rows ...[]order.Key) bool {
	a, b := counted(got), counted(rows...)
	if len(a) != len(b) {
		return false
	}
	for k, n := range a {
		if b[k] != n {
			return false
		}
	}
	return true
}

// slowly sorts by taking the first one over and over: slow, but plain.
func slowly(l []order.Key) []order.Key {
	rest := slices.Clone(l)
	all := []order.Key{}
	for len(rest) > 0 {
		at := 0
		for i := range rest {
			if ahead(rest[i], rest[at]) {
				at = i
			}
		}
		all = append(all, rest[at])
		rest = slices.Delete(rest, at, at+1)
	}
	return all
}

// edges are the numbers at which comparing by differences goes wrong, and their neighbours.
func edges() []int {
	return []int{least, least + 1, -1 << 62, -1 << 32, -1, 0, 1, 1 << 32, 1 << 62, greatest - 1, greatest}
}

// someRows are rows of all lengths to n with few different keys (so that many are the same), and of the edges' numbers.
func someRows(n int) [][]order.Key {
	r := rand.New(rand.NewSource(3))
	e := edges()
	rows := [][]order.Key{nil, {}}
	for size := 1; size <= n; size++ {
		few, far := make([]order.Key, size), make([]order.Key, size)
		for i := range size {
			few[i] = order.Key{A: r.Intn(4) - 2, B: r.Intn(4) - 2}
			far[i] = order.Key{A: e[r.Intn(len(e))], B: e[r.Intn(len(e))]}
		}
		rows = append(rows, few, far)
	}
	return rows
}

// P3.1: Less by rows: A first, then B; the same is not Less.
func TestLessRows(t *testing.T) {
	for _, x := range []struct {
		a, b, c, d int
		want       bool
	}{
		{1, 9, 2, 0, true}, {2, 0, 1, 9, false},
		{1, 1, 1, 2, true}, {1, 2, 1, 1, false}, {1, 1, 1, 1, false},
		{0, 0, 0, 0, false}, {-1, 0, 0, 0, true}, {0, -1, 0, 0, true}, {0, 0, 0, -1, false}, {-1, 5, -2, 5, false},
		{least, 0, greatest, 0, true}, {greatest, 0, least, 0, false},
		{0, least, 0, greatest, true}, {0, greatest, 0, least, false},
		{least, greatest, least + 1, least, true}, {greatest, greatest, greatest, greatest, false}, {least, least, least, least, false},
	} {
		k, l := order.Key{A: x.a, B: x.b}, order.Key{A: x.c, B: x.d}
		if got := order.Less(k, l); got != x.want {
			t.Errorf("Less(%v, %v) = %v", k, l, got)
		}
	}
}

// P3.1: Less of each two keys of the edges: one way or the other, or they are the same.
func TestLessEdges(t *testing.T) {
	var all []order.Key
	for _, a := range edges() {
		for _, b := range edges() {
			all = append(all, order.Key{A: a, B: b})
		}
	}
	for i, k := range all {
		for j, l := range all {
			if got := order.Less(k, l); got != (i < j) {
				t.Errorf("Less(%v, %v) = %v", k, l, got)
			}
		}
	}
}

// P3.1: Sort by rows: nothing, one, the example, same A, the same key more than once, the greatest numbers.
func TestSortRows(t *testing.T) {
	for _, x := range []struct{ l, want []order.Key }{
		{nil, nil}, {keys(), nil}, {keys(5, 5), keys(5, 5)},
		{keys(2, 1, 1, 5, 2, 0), keys(1, 5, 2, 0, 2, 1)},
		{keys(1, 1, 2, 2), keys(1, 1, 2, 2)}, {keys(2, 2, 1, 1), keys(1, 1, 2, 2)},
		{keys(7, 3, 7, 1, 7, 2), keys(7, 1, 7, 2, 7, 3)},
		{keys(1, 1, 1, 1), keys(1, 1, 1, 1)}, {keys(2, 2, 1, 1, 2, 2, 1, 1), keys(1, 1, 1, 1, 2, 2, 2, 2)},
		{keys(5, 0, 4, 0, 3, 0, 2, 0, 1, 0), keys(1, 0, 2, 0, 3, 0, 4, 0, 5, 0)},
		{keys(3, 0, 1, 0, 2, 0), keys(1, 0, 2, 0, 3, 0)}, {keys(0, 0, 0, -1), keys(0, -1, 0, 0)},
		{keys(greatest, least, least, greatest, 0, 0, least, least, greatest, greatest), keys(least, least, least, greatest, 0, 0, greatest, least, greatest, greatest)},
	} {
		if got := order.Sort(x.l); !slices.Equal(got, x.want) {
			t.Errorf("Sort(%v) = %v, want %v", x.l, got, x.want)
		}
	}
}

// P3.1: Sort of every row of up to six keys out of three.
func TestSortEveryShortRow(t *testing.T) {
	three := keys(1, 1, 1, 2, 2, 0)
	rows := [][]order.Key{nil}
	for size := 0; size <= 6; size++ {
		var longer [][]order.Key
		for _, l := range rows {
			if got, want := order.Sort(l), slowly(l); !slices.Equal(got, want) {
				t.Errorf("Sort(%v) = %v, want %v", l, got, want)
			}
			for _, k := range three {
				longer = append(longer, append(slices.Clone(l), k))
			}
		}
		rows = longer
	}
}

// P3.1: Sort of many rows: the same keys, each as often, none Less than the one ahead of it.
func TestSortManyRows(t *testing.T) {
	for _, l := range someRows(70) {
		got := order.Sort(l)
		if !sorted(got) || !sameKeys(got, l) || !slices.Equal(got, slowly(l)) {
			t.Errorf("Sort(%v) = %v", l, got)
		}
	}
}

// P3.1: Sort of long rows, rising, falling and mixed: it ends soon.
func TestSortLongRows(t *testing.T) {
	const size = 200000
	r := rand.New(rand.NewSource(4))
	for name, next := range map[string]func(i int) order.Key{
		"rising":  func(i int) order.Key { return order.Key{A: i} },
		"falling": func(i int) order.Key { return order.Key{A: -i} },
		"same":    func(i int) order.Key { return order.Key{A: 1, B: 1} },
		"teeth":   func(i int) order.Key { return order.Key{A: i % 2, B: i} },
		"mixed":   func(i int) order.Key { return order.Key{A: r.Int(), B: r.Int()} },
	} {
		l := make([]order.Key, size)
		for i := range l {
			l[i] = next(i)
		}
		if got := order.Sort(l); !sorted(got) || !sameKeys(got, l) {
			t.Errorf("%s: not sorted", name)
		}
	}
}

// P3.1: Rising by rows: nothing and one rise; the same twice does not.
func TestRisingRows(t *testing.T) {
	for _, x := range []struct {
		l    []order.Key
		want bool
	}{
		{nil, true}, {keys(), true}, {keys(5, 5), true},
		{keys(1, 1, 1, 2), true}, {keys(1, 9, 2, 0), true}, {keys(1, 1, 1, 2, 3, 0), true},
		{keys(1, 1, 1, 1), false}, {keys(1, 2, 1, 1), false}, {keys(2, 0, 1, 9), false},
		{keys(2, 2, 1, 1, 3, 3), false}, {keys(1, 1, 2, 2, 2, 2), false}, {keys(1, 1, 3, 3, 2, 2), false}, {keys(1, 1, 2, 2, 2, 2, 3, 3), false},
		{keys(1, 1, 3, 3, 2, 2, 4, 4), false},
		{keys(least, least, least, greatest, 0, 0, greatest, least, greatest, greatest), true},
		{keys(greatest, 0, least, 0), false}, {keys(0, greatest, 0, least), false},
	} {
		if got := order.Rising(x.l); got != x.want {
			t.Errorf("Rising(%v) = %v", x.l, got)
		}
	}
}

// P3.1: what rises is its own Sort, with no key twice.
func TestRisingIsSortedApart(t *testing.T) {
	for _, l := range someRows(40) {
		for _, row := range [][]order.Key{l, order.Sort(l), slices.Compact(order.Sort(l))} {
			want := sorted(row) && len(counted(row)) == len(row)
			if got := order.Rising(row); got != want {
				t.Errorf("Rising(%v) = %v", row, got)
			}
		}
	}
}
