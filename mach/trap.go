package mach

import "machine/api"

// interruptCause is the bit of mcause and scause that tells an interrupt from an exception.
const interruptCause = 1 << 31

// asked tells the interrupts that are both in mip and in mie.
func (x *Machine) asked() int {
	return x.pending() & x.csrs.mie
}

// interrupt tells the most urgent interrupt that may be taken; api.NoCause, if none may (P14).
func (x *Machine) interrupt() int {
	asked := x.asked()
	mode := x.hart.mode
	forMach := asked &^ x.csrs.mideleg
	if forMach != 0 && (mode != api.Mach || x.csrs.mstatus&statusMie != 0) {
		return mostUrgent(forMach)
	}
	forSuper := asked & x.csrs.mideleg
	if forSuper != 0 && (mode == api.User || mode == api.Super && x.csrs.mstatus&statusSie != 0) {
		return mostUrgent(forSuper)
	}
	return api.NoCause
}

// mostUrgent tells the most urgent of interrupts; api.NoCause, if there is none.
func mostUrgent(asked int) int {
	switch {
	case hasBit(asked, api.IrqMext):
		return api.IrqMext
	case hasBit(asked, api.IrqMsoft):
		return api.IrqMsoft
	case hasBit(asked, api.IrqMtime):
		return api.IrqMtime
	case hasBit(asked, api.IrqSext):
		return api.IrqSext
	case hasBit(asked, api.IrqSsoft):
		return api.IrqSsoft
	case hasBit(asked, api.IrqStime):
		return api.IrqStime
	}
	return api.NoCause
}

// trapException takes an exception (P14).
func (x *Machine) trapException(met exception) {
	if x.delegates(x.csrs.medeleg, met.cause) {
		x.trapToSuper(met.cause, met.tval)
		return
	}
	x.trapToMach(met.cause, met.tval)
}

// trapInterrupt takes an interrupt (P14).
func (x *Machine) trapInterrupt(cause int) {
	if x.delegates(x.csrs.mideleg, cause) {
		x.trapToSuper(cause+interruptCause, 0)
		return
	}
	x.trapToMach(cause+interruptCause, 0)
}

// delegates tells whether a trap goes to mode S, by medeleg or mideleg.
func (x *Machine) delegates(deleg int, cause int) bool {
	return x.hart.mode != api.Mach && hasBit(deleg, cause)
}

func (x *Machine) trapToSuper(cause int, tval int) {
	x.csrs.sepc = x.hart.pc
	x.csrs.scause = cause
	x.csrs.stval = tval
	x.csrs.mstatus = superTrapped(x.csrs.mstatus, x.hart.mode)
	x.hart.mode = api.Super
	x.hart.pc = handler(x.csrs.stvec, cause)
}

func (x *Machine) trapToMach(cause int, tval int) {
	x.csrs.mepc = x.hart.pc
	x.csrs.mcause = cause
	x.csrs.mtval = tval
	x.csrs.mstatus = machTrapped(x.csrs.mstatus, x.hart.mode)
	x.hart.mode = api.Mach
	x.hart.pc = handler(x.csrs.mtvec, cause)
}

// handler tells where a trap goes on, by mtvec or stvec.
func handler(tvec int, cause int) int {
	at := tvec &^ 3
	if cause >= interruptCause && tvec&1 != 0 {
		at = at + 4*(cause-interruptCause)
	}
	return word(at)
}

// superTrapped tells mstatus behind a trap to mode S that was met in mode S or U.
func superTrapped(status int, mode int) int {
	status = setIf(status, statusSpie, status&statusSie != 0)
	status = setIf(status, statusSpp, mode == api.Super)
	return status &^ statusSie
}

// machTrapped tells mstatus behind a trap to mode M that was met in a mode.
func machTrapped(status int, mode int) int {
	status = setIf(status, statusMpie, status&statusMie != 0)
	status = mixed(status, mode<<statusMppShift, statusMpp)
	return status &^ statusMie
}
