package isa

import "machine/api"

// longRow tells the row of op in the table of words of 32 bits; an empty one, if there is none.
func longRow(op int) row {
	switch {
	case op <= api.Auipc:
		return upperRow(op)
	case op <= api.Bgeu:
		return jumpRow(op)
	case op <= api.Sw:
		return memoryRow(op)
	case op <= api.Srai:
		return immediateRow(op)
	case op <= api.And:
		return registerRow(op)
	case op <= api.Ebreak:
		return fenceRow(op)
	case op <= api.Remu:
		return productRow(op)
	case op <= api.AmoMaxu:
		return atomicRow(op)
	}
	return systemRow(op)
}

func upperRow(op int) row {
	switch op {
	case api.Lui:
		return row{op, "tsrqponmlkjihgfedcbaDDDDD0110111", signed}
	case api.Auipc:
		return row{op, "tsrqponmlkjihgfedcbaDDDDD0010111", signed}
	}
	return row{}
}

func jumpRow(op int) row {
	switch op {
	case api.Jal:
		return row{op, "ukjihgfedcbltsrqponmDDDDD1101111", signed}
	case api.Jalr:
		return row{op, "lkjihgfedcbaSSSSS000DDDDD1100111", signed}
	case api.Beq:
		return row{op, "mkjihgfTTTTTSSSSS000edcbl1100011", signed}
	case api.Bne:
		return row{op, "mkjihgfTTTTTSSSSS001edcbl1100011", signed}
	case api.Blt:
		return row{op, "mkjihgfTTTTTSSSSS100edcbl1100011", signed}
	case api.Bge:
		return row{op, "mkjihgfTTTTTSSSSS101edcbl1100011", signed}
	case api.Bltu:
		return row{op, "mkjihgfTTTTTSSSSS110edcbl1100011", signed}
	case api.Bgeu:
		return row{op, "mkjihgfTTTTTSSSSS111edcbl1100011", signed}
	}
	return row{}
}

func memoryRow(op int) row {
	switch op {
	case api.Lb:
		return row{op, "lkjihgfedcbaSSSSS000DDDDD0000011", signed}
	case api.Lh:
		return row{op, "lkjihgfedcbaSSSSS001DDDDD0000011", signed}
	case api.Lw:
		return row{op, "lkjihgfedcbaSSSSS010DDDDD0000011", signed}
	case api.Lbu:
		return row{op, "lkjihgfedcbaSSSSS100DDDDD0000011", signed}
	case api.Lhu:
		return row{op, "lkjihgfedcbaSSSSS101DDDDD0000011", signed}
	case api.Sb:
		return row{op, "lkjihgfTTTTTSSSSS000edcba0100011", signed}
	case api.Sh:
		return row{op, "lkjihgfTTTTTSSSSS001edcba0100011", signed}
	case api.Sw:
		return row{op, "lkjihgfTTTTTSSSSS010edcba0100011", signed}
	}
	return row{}
}

func immediateRow(op int) row {
	switch op {
	case api.Addi:
		return row{op, "lkjihgfedcbaSSSSS000DDDDD0010011", signed}
	case api.Slti:
		return row{op, "lkjihgfedcbaSSSSS010DDDDD0010011", signed}
	case api.Sltiu:
		return row{op, "lkjihgfedcbaSSSSS011DDDDD0010011", signed}
	case api.Xori:
		return row{op, "lkjihgfedcbaSSSSS100DDDDD0010011", signed}
	case api.Ori:
		return row{op, "lkjihgfedcbaSSSSS110DDDDD0010011", signed}
	case api.Andi:
		return row{op, "lkjihgfedcbaSSSSS111DDDDD0010011", signed}
	case api.Slli:
		return row{op, "0000000edcbaSSSSS001DDDDD0010011", 0}
	case api.Srli:
		return row{op, "0000000edcbaSSSSS101DDDDD0010011", 0}
	case api.Srai:
		return row{op, "0100000edcbaSSSSS101DDDDD0010011", 0}
	}
	return row{}
}

func registerRow(op int) row {
	switch op {
	case api.Add:
		return row{op, "0000000TTTTTSSSSS000DDDDD0110011", 0}
	case api.Sub:
		return row{op, "0100000TTTTTSSSSS000DDDDD0110011", 0}
	case api.Sll:
		return row{op, "0000000TTTTTSSSSS001DDDDD0110011", 0}
	case api.Slt:
		return row{op, "0000000TTTTTSSSSS010DDDDD0110011", 0}
	case api.Sltu:
		return row{op, "0000000TTTTTSSSSS011DDDDD0110011", 0}
	case api.Xor:
		return row{op, "0000000TTTTTSSSSS100DDDDD0110011", 0}
	case api.Srl:
		return row{op, "0000000TTTTTSSSSS101DDDDD0110011", 0}
	case api.Sra:
		return row{op, "0100000TTTTTSSSSS101DDDDD0110011", 0}
	case api.Or:
		return row{op, "0000000TTTTTSSSSS110DDDDD0110011", 0}
	case api.And:
		return row{op, "0000000TTTTTSSSSS111DDDDD0110011", 0}
	}
	return row{}
}

func fenceRow(op int) row {
	switch op {
	case api.Fence:
		return row{op, "lkjihgfedcbaSSSSS000DDDDD0001111", signed}
	case api.FenceI:
		return row{op, "lkjihgfedcbaSSSSS001DDDDD0001111", signed}
	case api.Ecall:
		return row{op, "00000000000000000000000001110011", 0}
	case api.Ebreak:
		return row{op, "00000000000100000000000001110011", 0}
	}
	return row{}
}

func productRow(op int) row {
	switch op {
	case api.Mul:
		return row{op, "0000001TTTTTSSSSS000DDDDD0110011", 0}
	case api.Mulh:
		return row{op, "0000001TTTTTSSSSS001DDDDD0110011", 0}
	case api.Mulhsu:
		return row{op, "0000001TTTTTSSSSS010DDDDD0110011", 0}
	case api.Mulhu:
		return row{op, "0000001TTTTTSSSSS011DDDDD0110011", 0}
	case api.Div:
		return row{op, "0000001TTTTTSSSSS100DDDDD0110011", 0}
	case api.Divu:
		return row{op, "0000001TTTTTSSSSS101DDDDD0110011", 0}
	case api.Rem:
		return row{op, "0000001TTTTTSSSSS110DDDDD0110011", 0}
	case api.Remu:
		return row{op, "0000001TTTTTSSSSS111DDDDD0110011", 0}
	}
	return row{}
}

func atomicRow(op int) row {
	switch op {
	case api.LrW:
		return row{op, "00010ba00000SSSSS010DDDDD0101111", 0}
	case api.ScW:
		return row{op, "00011baTTTTTSSSSS010DDDDD0101111", 0}
	case api.AmoSwap:
		return row{op, "00001baTTTTTSSSSS010DDDDD0101111", 0}
	case api.AmoAdd:
		return row{op, "00000baTTTTTSSSSS010DDDDD0101111", 0}
	case api.AmoXor:
		return row{op, "00100baTTTTTSSSSS010DDDDD0101111", 0}
	case api.AmoAnd:
		return row{op, "01100baTTTTTSSSSS010DDDDD0101111", 0}
	case api.AmoOr:
		return row{op, "01000baTTTTTSSSSS010DDDDD0101111", 0}
	case api.AmoMin:
		return row{op, "10000baTTTTTSSSSS010DDDDD0101111", 0}
	case api.AmoMax:
		return row{op, "10100baTTTTTSSSSS010DDDDD0101111", 0}
	case api.AmoMinu:
		return row{op, "11000baTTTTTSSSSS010DDDDD0101111", 0}
	case api.AmoMaxu:
		return row{op, "11100baTTTTTSSSSS010DDDDD0101111", 0}
	}
	return row{}
}

func systemRow(op int) row {
	switch op {
	case api.Csrrw:
		return row{op, "lkjihgfedcbaSSSSS001DDDDD1110011", 0}
	case api.Csrrs:
		return row{op, "lkjihgfedcbaSSSSS010DDDDD1110011", 0}
	case api.Csrrc:
		return row{op, "lkjihgfedcbaSSSSS011DDDDD1110011", 0}
	case api.Csrrwi:
		return row{op, "lkjihgfedcbaSSSSS101DDDDD1110011", 0}
	case api.Csrrsi:
		return row{op, "lkjihgfedcbaSSSSS110DDDDD1110011", 0}
	case api.Csrrci:
		return row{op, "lkjihgfedcbaSSSSS111DDDDD1110011", 0}
	case api.Mret:
		return row{op, "00110000001000000000000001110011", 0}
	case api.Sret:
		return row{op, "00010000001000000000000001110011", 0}
	case api.Wfi:
		return row{op, "00010000010100000000000001110011", 0}
	case api.SfenceVma:
		return row{op, "0001001TTTTTSSSSS000000001110011", 0}
	}
	return row{}
}
