package isa

import "machine/api"

// fixedBitsFit tells whether w has the bits that a picture fixes.
func fixedBitsFit(picture string, w int) bool {
	// From the lowest bit on, since most pictures differ there: Decode asks this of every row.
	for k := len(picture) - 1; k >= 0; k-- {
		c := picture[k]
		if c == '0' && w&1 == 1 || c == '1' && w&1 == 0 {
			return false
		}
		w = w >> 1
	}
	return true
}

// register tells the register that a picture draws with a letter; 0 if it draws none.
func register(picture string, letter byte, w int) int {
	number := 0
	weight := 1
	for k := len(picture) - 1; k >= 0; k-- {
		if picture[k] == letter {
			number = number + (w&1)*weight
			weight = weight * 2
		}
		w = w >> 1
	}
	if weight == 8 {
		// Three letters: x8 to x15.
		number = number + 8
	}
	return number
}

// immediate tells the immediate that a picture draws, its highest letter perhaps negative; 0 if it draws none.
func immediate(picture string, negative bool, w int) int {
	number := 0
	highest := 0
	for k := len(picture) - 1; k >= 0; k-- {
		c := picture[k]
		if isImmediateLetter(c) {
			weight := 1 << (c - 'a')
			number = number + (w&1)*weight
			if weight > highest {
				highest = weight
			}
		}
		w = w >> 1
	}
	// All lower letters together weigh less than the highest: so this asks whether its bit is set.
	if negative && number >= highest {
		number = number - 2*highest
	}
	return number
}

// draw tells the word that has a picture's fixed bits and, at its letters, the bits of i.
func draw(picture string, i api.Ins) int {
	w := 0
	weight := 1
	rd := i.Rd
	rs1 := i.Rs1
	rs2 := i.Rs2
	for k := len(picture) - 1; k >= 0; k-- {
		c := picture[k]
		bit := 0
		switch {
		case c == '1':
			bit = 1
		case c == 'D' || c == 'B':
			bit = rd & 1
			rd = rd >> 1
		case c == 'S':
			bit = rs1 & 1
			rs1 = rs1 >> 1
		case c == 'T':
			bit = rs2 & 1
			rs2 = rs2 >> 1
		case isImmediateLetter(c):
			bit = (i.Imm >> (c - 'a')) & 1
		}
		w = w + bit*weight
		weight = weight * 2
	}
	return w
}

func isImmediateLetter(c byte) bool {
	return c >= 'a' && c <= 'z'
}
