package asm

import (
	"strconv"

	"machine/api"
)

// dataText tells the line that means a word of so many bytes as a number.
func dataText(w int, size int) string {
	op := api.DataWord
	if size == 2 {
		op = api.DataHalf
	}
	return api.Name(op) + " " + strconv.Itoa(w)
}

// insText tells the line that means an instruction.
func insText(i api.Ins) string {
	text := api.Name(i.Op)
	if i.Len == 2 {
		text = shortName(i.Op)
	}
	shape := api.Shape(i.Op)
	for k := 0; k < len(shape); k++ {
		if k == 0 {
			text = text + " "
		} else {
			text = text + ", "
		}
		text = text + operandText(shape[k], i)
	}
	return text
}

// operandText tells the operand of a letter.
func operandText(letter byte, i api.Ins) string {
	switch letter {
	case 'd':
		return registerName(i.Rd)
	case 's':
		return registerName(i.Rs1)
	case 't':
		return registerName(i.Rs2)
	case 'u':
		return strconv.Itoa(i.Rs1)
	case 'm':
		return strconv.Itoa(i.Imm) + "(" + registerName(i.Rs1) + ")"
	}
	return strconv.Itoa(i.Imm)
}
