package mach

import (
	"machine/api"
	"machine/isa"
)

// An exception that an instruction met; its cause is api.NoCause, if it met none.
type exception struct {
	cause, tval int
}

func (e exception) none() bool {
	return e.cause == api.NoCause
}

func fine() exception {
	return exception{cause: api.NoCause}
}

// instruct fetches the instruction at pc and carries it out (P8).
func (x *Machine) instruct() exception {
	w, met := x.fetch()
	if !met.none() {
		return met
	}
	i, e := isa.Decode(w)
	if e != api.OK {
		return exception{api.CauseIllegal, w}
	}
	// Ahead of the effect, since jalr's rs1 may be its rd.
	next := x.nextPc(i)
	met = x.carryOut(i, w)
	if met.none() {
		x.hart.pc = next
	}
	return met
}

// fetch tells the word at pc.
func (x *Machine) fetch() (int, exception) {
	low, met := x.fetchHalf(x.hart.pc)
	if !met.none() || low&3 != 3 {
		return low, met
	}
	high, met := x.fetchHalf(word(x.hart.pc + 2))
	if !met.none() {
		return 0, met
	}
	return low + high<<16, met
}

func (x *Machine) fetchHalf(address int) (int, exception) {
	if !x.isRam(address, 2) {
		return 0, exception{api.CauseFetchAccess, address}
	}
	return x.ramNumber(address, 2), fine()
}

// count lets the counters go on behind a step (P8).
func (x *Machine) count(retired bool) {
	x.csrs.cycle = x.csrs.cycle.plus(1)
	if retired {
		x.csrs.instret = x.csrs.instret.plus(1)
	}
}

// trap takes an exception to mode M, where all of them go in mode M (P14).
func (x *Machine) trap(met exception) {
	x.csrs.mepc = x.hart.pc
	x.csrs.mcause = met.cause
	x.csrs.mtval = met.tval
	x.csrs.mstatus = trapStatus(x.csrs.mstatus, x.hart.mode)
	x.hart.mode = api.Mach
	x.hart.pc = x.csrs.mtvec - x.csrs.mtvec%4
}

// trapStatus tells mstatus behind a trap to mode M that was met in a mode.
func trapStatus(status int, mode int) int {
	kept := status &^ (statusMie | statusMpie | statusMpp)
	if status&statusMie != 0 {
		kept = kept | statusMpie
	}
	return kept | mode<<statusMppShift
}
