// Package ratio: products and shares: see ../../shared/doc/01-ratio.md.
package ratio

import "triage/api"

const (
	hundred  = 100
	maxTotal = 1000000
)

// MulDiv tells a times b by c, down; no, if one of them may not be, or the answer is above MaxTime.
func MulDiv(a, b, c int) (int, bool) {
	if a < 0 || b < 0 || c < 1 {
		return 0, false
	}
	quotient, fits := product(a, b).by(uint64(c))
	if !fits || quotient > api.MaxTime {
		return 0, false
	}
	return int(quotient), true
}

// Compare tells whether a times b is less than (-1), the same as (0) or more than (1) c times d.
func Compare(a, b, c, d int) int {
	ab, cd := product(a, b), product(c, d)
	switch {
	case ab.less(cd):
		return -1
	case cd.less(ab):
		return 1
	}
	return 0
}

// Percent tells p percent of n, down; 0, if there is no such number.
func Percent(n, p int) int {
	part, _ := MulDiv(n, p, hundred)
	return part
}

// Sum tells the sum of those above 0, MaxTime at most.
func Sum(l ...int) int {
	sum := 0
	for _, n := range l {
		// Asked ahead of adding: the sum itself might go round.
		if n > api.MaxTime-sum {
			return api.MaxTime
		}
		sum += orZero(n)
	}
	return sum
}

// Draw tells which of 0 to n - 1 the draw d means; 0, if there are none.
func Draw(d, n int) int {
	if n < 1 {
		return 0
	}
	rest := d % n
	if rest < 0 {
		rest += n
	}
	return rest
}

// Spread tells total shared by the parts; nothing, if it may not be shared.
func Spread(total int, parts []int) []int {
	if !maySpread(total, parts) {
		return nil
	}
	sum := Sum(parts...)
	shares := make([]int, len(parts))
	left := total
	for i, part := range parts {
		shares[i], _ = MulDiv(total, orZero(part), sum)
		left -= shares[i]
	}
	giveLeft(shares, parts, left)
	return shares
}

func maySpread(total int, parts []int) bool {
	if total < 0 || total > maxTotal || Sum(parts...) == 0 {
		return false
	}
	// With no part above this their Sum is never cut at MaxTime.
	most := api.MaxTime / len(parts)
	for _, part := range parts {
		if part > most {
			return false
		}
	}
	return true
}

// giveLeft goes through the parts once: each one above 0 lacks less than one, so fewer are left over than there are such parts.
func giveLeft(shares, parts []int, left int) {
	for i, part := range parts {
		if left == 0 {
			return
		}
		if part > 0 {
			shares[i]++
			left--
		}
	}
}

func orZero(n int) int {
	if n < 0 {
		return 0
	}
	return n
}
