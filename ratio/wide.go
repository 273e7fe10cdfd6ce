package ratio

// wide is a number of 128 bits.
type wide struct{ high, low uint64 }

const (
	wordBits = 64
	halfBits = 32
	halfMask = 1<<halfBits - 1
)

// product counts a factor below 0 as 0.
func product(a, b int) wide {
	return times(uint64(orZero(a)), uint64(orZero(b)))
}

// times works by halves of 32 bits: the product of two, with two more halves added, is never wider than a word.
func times(a, b uint64) wide {
	aHigh, aLow := a>>halfBits, a&halfMask
	bHigh, bLow := b>>halfBits, b&halfMask
	low := aLow * bLow
	middle := aHigh*bLow + low>>halfBits
	other := aLow*bHigh + middle&halfMask
	return wide{
		high: aHigh*bHigh + middle>>halfBits + other>>halfBits,
		low:  other<<halfBits | low&halfMask,
	}
}

func (w wide) less(x wide) bool {
	return w.high < x.high || w.high == x.high && w.low < x.low
}

// by divides, down; no, if the quotient is wider than a word. c is above 0 and, as it was an int, below 2^63: what rests is below c, so it can be doubled within a word.
func (w wide) by(c uint64) (uint64, bool) {
	if w.high >= c {
		return 0, false
	}
	rest, quotient := w.high, uint64(0)
	for i := range wordBits {
		bit := w.low >> (wordBits - 1 - i) & 1
		rest = rest<<1 | bit
		quotient <<= 1
		if rest >= c {
			rest -= c
			quotient |= 1
		}
	}
	return quotient, true
}
