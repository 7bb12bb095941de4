package mach

import "machine/api"

// mayAccess tells whether an instruction of a CSR may be (P13).
func (x *Machine) mayAccess(i api.Ins) bool {
	n := i.Imm
	mode := x.hart.mode
	_, there := x.readCsr(n)
	switch {
	case !there:
		return false
	case n>>8&3 > mode:
		return false
	case n>>10&3 == 3 && writesCsr(i):
		return false
	case n == api.CsrSatp && mode == api.Super:
		return x.csrs.mstatus&statusTvm == 0
	case n >= 0xc00 && n <= 0xcff:
		return x.mayReadCounter(n)
	}
	return true
}

// mayReadCounter tells whether the mode may read a view of a counter.
func (x *Machine) mayReadCounter(n int) bool {
	switch x.hart.mode {
	case api.Mach:
		return true
	case api.Super:
		return hasBit(x.csrs.mcounteren, n%32)
	}
	return hasBit(x.csrs.mcounteren&x.csrs.scounteren, n%32)
}

// writesCsr tells whether an instruction of a CSR writes it: even if that changes nothing.
func writesCsr(i api.Ins) bool {
	return i.Op == api.Csrrw || i.Op == api.Csrrwi || i.Rs1 != 0
}

// changeCsr carries out an instruction of a CSR that may be (P13).
func (x *Machine) changeCsr(i api.Ins) {
	operand := i.Rs1
	if i.Op <= api.Csrrc {
		operand = x.register(i.Rs1)
	}
	was, _ := x.readCsr(i.Imm)
	x.setRegister(i.Rd, was)
	if !writesCsr(i) {
		return
	}
	if i.Imm == api.CsrMip {
		// Without the lines: the port's must not be kept as if it had been written.
		was = x.csrs.mip
	}
	x.csrs.write(i.Imm, changed(i.Op, was, operand))
}

// changed tells what becomes of a CSR.
func changed(op int, was int, operand int) int {
	switch op {
	case api.Csrrs, api.Csrrsi:
		return was | operand
	case api.Csrrc, api.Csrrci:
		return was &^ operand
	}
	return operand
}

// countersWritten tells which counters an instruction that met no exception wrote, as bits of mcountinhibit.
func countersWritten(i api.Ins) int {
	if i.Op < api.Csrrw || i.Op > api.Csrrci || !writesCsr(i) {
		return 0
	}
	switch i.Imm {
	case api.CsrMcycle, api.CsrMcycleh:
		return countCycle
	case api.CsrMinstret, api.CsrMinstreth:
		return countInstret
	}
	return 0
}
