package mach

const allBits = 1<<32 - 1

// A wide number has 64 bits, as two of 32: its value may lie beyond int's range.
type wide struct {
	low, high int
}

// plus tells the sum with n, 0 to 2^32 - 1, modulo 2^64.
func (w wide) plus(n int) wide {
	sum := w.low + n
	return wide{low: word(sum), high: word(w.high + sum>>32)}
}

func (w wide) atLeast(v wide) bool {
	return w.high > v.high || w.high == v.high && w.low >= v.low
}

// word tells the low 32 bits of a number.
func word(v int) int {
	return v & allBits
}

// signed reads a number of 32 bits as two's complement.
func signed(v int) int {
	return extended(v, 4)
}

// extended reads a number of so many bytes as two's complement.
func extended(v int, size int) int {
	limit := 1 << 32
	switch size {
	case 1:
		limit = 1 << 8
	case 2:
		limit = 1 << 16
	}
	if v >= limit/2 {
		return v - limit
	}
	return v
}

func oneIf(so bool) int {
	if so {
		return 1
	}
	return 0
}

func choose(first bool, a int, b int) int {
	if first {
		return a
	}
	return b
}

// hasBit tells whether a bit of v, 0 the lowest, is set.
func hasBit(v int, bit int) bool {
	return bit >= 0 && v>>bit&1 != 0
}

// setIf tells v with the bits of a mask set, if it is so, else cleared.
func setIf(v int, mask int, so bool) int {
	if so {
		return v | mask
	}
	return v &^ mask
}
