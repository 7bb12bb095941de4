package mach

import "machine/api"

// carryOut does what an instruction does, but for pc (P10 to P14). w is its word.
func (x *Machine) carryOut(i api.Ins, w int) exception {
	switch {
	case hasResult(i.Op):
		v := x.result(i)
		x.setRegister(i.Rd, v)
		return fine()
	case isBranch(i.Op) || i.Op == api.Fence || i.Op == api.FenceI:
		return fine()
	case i.Op >= api.Lb && i.Op <= api.Lhu:
		return x.load(i)
	case i.Op >= api.Sb && i.Op <= api.Sw:
		return x.store(i)
	case i.Op >= api.LrW && i.Op <= api.AmoMaxu:
		return x.atomic(i)
	case i.Op == api.Ecall:
		return exception{cause: api.CauseCallUser + x.hart.mode}
	case i.Op == api.Ebreak:
		return exception{api.CauseBreak, x.hart.pc}
	case i.Op >= api.Csrrw && i.Op <= api.Csrrci && x.mayAccess(i):
		x.changeCsr(i)
		return fine()
	case i.Op >= api.Mret && i.Op <= api.SfenceVma && x.mayDo(i.Op):
		x.privileged(i.Op)
		return fine()
	}
	// A word that means nothing, or one that may not be in this mode.
	return exception{api.CauseIllegal, w}
}

// nextPc tells where pc goes behind an instruction that meets no exception.
func (x *Machine) nextPc(i api.Ins) int {
	switch {
	case i.Op == api.Jal || isBranch(i.Op) && x.branches(i):
		return word(x.hart.pc + i.Imm)
	case i.Op == api.Jalr:
		target := word(x.register(i.Rs1) + i.Imm)
		return target - target%2
	case i.Op == api.Mret:
		return x.csrs.mepc
	case i.Op == api.Sret:
		return x.csrs.sepc
	}
	return x.behind(i)
}

// behind tells where the word behind an instruction lies.
func (x *Machine) behind(i api.Ins) int {
	return word(x.hart.pc + i.Len)
}

func isBranch(op int) bool {
	return op >= api.Beq && op <= api.Bgeu
}

// branches tells whether a branch is taken.
func (x *Machine) branches(i api.Ins) bool {
	a := x.register(i.Rs1)
	b := x.register(i.Rs2)
	switch i.Op {
	case api.Beq:
		return a == b
	case api.Bne:
		return a != b
	case api.Blt:
		return signed(a) < signed(b)
	case api.Bge:
		return signed(a) >= signed(b)
	case api.Bltu:
		return a < b
	}
	return a >= b
}

// hasResult tells whether all that an instruction does, but for pc, is to write rd.
func hasResult(op int) bool {
	switch {
	case op >= api.Lui && op <= api.Jalr:
		return true
	case op >= api.Addi && op <= api.And:
		return true
	}
	return op >= api.Mul && op <= api.Remu
}

// result tells what such an instruction writes.
func (x *Machine) result(i api.Ins) int {
	a := x.register(i.Rs1)
	switch {
	case i.Op == api.Lui:
		return word(i.Imm * 4096)
	case i.Op == api.Auipc:
		return word(x.hart.pc + i.Imm*4096)
	case i.Op == api.Jal || i.Op == api.Jalr:
		return x.behind(i)
	case i.Op <= api.Srai:
		return reckon(registerForm(i.Op), a, word(i.Imm))
	case i.Op <= api.And:
		return reckon(i.Op, a, x.register(i.Rs2))
	}
	return multiply(i.Op, a, x.register(i.Rs2))
}
