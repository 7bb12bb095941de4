package asm

import "machine/api"

// readOperands adds to a line what its operands say, and tells whether they are just those of its shape.
func readOperands(l line, list []string) (line, bool) {
	shape := api.Shape(l.ins.Op)
	at := 0
	for k := 0; k < len(shape); k++ {
		if k > 0 {
			if tokenAt(list, at) != "," {
				return line{}, false
			}
			at = at + 1
		}
		next, ok := readOperand(l, shape[k], list, at)
		if !ok {
			return line{}, false
		}
		l = next
		at = at + operandTokens(shape[k])
	}
	if at != len(list) {
		return line{}, false
	}
	return l, true
}

// operandTokens tells how many tokens an operand of a letter has.
func operandTokens(letter byte) int {
	if letter == 'm' {
		return 4
	}
	return 1
}

// readOperand adds to a line what the operand at a place of the list says, and tells whether it is one of that letter.
func readOperand(l line, letter byte, list []string, at int) (line, bool) {
	token := tokenAt(list, at)
	switch letter {
	case 'd', 's', 't':
		return readRegisterOperand(l, letter, token)
	case 'm':
		return readPlaceOperand(l, list, at)
	}
	if letter == 'j' && isName(token) {
		l.target = token
		return l, true
	}
	number, ok := readNumber(token)
	if !ok {
		return line{}, false
	}
	if letter == 'u' {
		l.ins.Rs1 = number
	} else {
		l.ins.Imm = number
	}
	return l, true
}

func readRegisterOperand(l line, letter byte, token string) (line, bool) {
	register, ok := readRegister(token)
	if !ok {
		return line{}, false
	}
	switch letter {
	case 'd':
		l.ins.Rd = register
	case 's':
		l.ins.Rs1 = register
	case 't':
		l.ins.Rs2 = register
	}
	return l, true
}

// readPlaceOperand is readOperand for the letter m.
func readPlaceOperand(l line, list []string, at int) (line, bool) {
	if tokenAt(list, at+1) != "(" || tokenAt(list, at+3) != ")" {
		return line{}, false
	}
	number, ok := readNumber(tokenAt(list, at))
	if !ok {
		return line{}, false
	}
	register, ok := readRegister(tokenAt(list, at+2))
	if !ok {
		return line{}, false
	}
	l.ins.Imm = number
	l.ins.Rs1 = register
	return l, true
}
