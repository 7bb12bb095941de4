package mach

import "machine/api"

// registerForm tells the instruction that does with rs2 what this one does with its immediate.
func registerForm(op int) int {
	switch op {
	case api.Slti:
		return api.Slt
	case api.Sltiu:
		return api.Sltu
	case api.Xori:
		return api.Xor
	case api.Ori:
		return api.Or
	case api.Andi:
		return api.And
	case api.Slli:
		return api.Sll
	case api.Srli:
		return api.Srl
	case api.Srai:
		return api.Sra
	}
	return api.Add
}

// reckon tells what add to and make of two numbers.
func reckon(op int, a int, b int) int {
	far := b & 31
	switch op {
	case api.Sub:
		return word(a - b)
	case api.Sll:
		return word(a << far)
	case api.Slt:
		return oneIf(signed(a) < signed(b))
	case api.Sltu:
		return oneIf(a < b)
	case api.Xor:
		return a ^ b
	case api.Srl:
		return a >> far
	case api.Sra:
		return word(signed(a) >> far)
	case api.Or:
		return a | b
	case api.And:
		return a & b
	}
	return word(a + b)
}

// multiply tells what mul to remu make of two numbers.
func multiply(op int, a int, b int) int {
	switch op {
	case api.Mul:
		return word(signed(a) * signed(b))
	case api.Mulh:
		return highWord(signed(a), signed(b))
	case api.Mulhsu:
		return highWord(signed(a), b)
	case api.Mulhu:
		return highWord(a, b)
	case api.Div:
		return word(quotient(signed(a), signed(b)))
	case api.Divu:
		return word(quotient(a, b))
	case api.Rem:
		return word(remainder(signed(a), signed(b)))
	}
	return remainder(a, b)
}

// highWord tells the high word of a product of 64 bits.
func highWord(a int, b int) int {
	// a in two halves, since the product of two unsigned words may leave int's range.
	high := (a >> 16) * b
	low := (a & 0xffff) * b
	return word((high + low>>16) >> 16)
}

func quotient(a int, b int) int {
	if b == 0 {
		return allBits
	}
	return a / b
}

func remainder(a int, b int) int {
	if b == 0 {
		return a
	}
	return a % b
}
