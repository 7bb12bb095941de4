package mach

import (
	"machine/api"
	"machine/isa"
)

// An exception that an instruction met; its cause is api.NoCause, if it met none.
type exception struct {
	cause, tval int
}

func (e exception) none() bool {
	return e.cause == api.NoCause
}

func fine() exception {
	return exception{cause: api.NoCause}
}

// act does a step, but for the counters that go on with it; it tells which of them were written, as bits of mcountinhibit.
func (x *Machine) act() (api.Did, int) {
	if x.hart.waits && x.asked() == 0 {
		return api.Did{Kind: api.Idle}, 0
	}
	x.hart.waits = false
	cause := x.interrupt()
	if cause != api.NoCause {
		x.trapInterrupt(cause)
		return api.Did{Kind: api.Interrupt, Cause: cause}, 0
	}
	i, met := x.instruct()
	if !met.none() {
		x.trapException(met)
		return api.Did{Kind: api.Exception, Cause: met.cause}, 0
	}
	return api.Did{Kind: api.Retired}, countersWritten(i)
}

// instruct fetches the instruction at pc and carries it out (P8).
func (x *Machine) instruct() (api.Ins, exception) {
	w, met := x.fetch()
	if !met.none() {
		return api.Ins{}, met
	}
	i, e := isa.Decode(w)
	if e != api.OK {
		return api.Ins{}, exception{api.CauseIllegal, w}
	}
	// Ahead of the effect, since jalr's rs1 may be its rd.
	next := x.nextPc(i)
	met = x.carryOut(i, w)
	if !met.none() {
		return api.Ins{}, met
	}
	x.hart.pc = next
	return i, met
}

// fetch tells the word at pc.
func (x *Machine) fetch() (int, exception) {
	low, met := x.fetchHalf(x.hart.pc)
	if !met.none() || low&3 != 3 {
		return low, met
	}
	high, met := x.fetchHalf(word(x.hart.pc + 2))
	if !met.none() {
		return 0, met
	}
	return low + high<<16, met
}

func (x *Machine) fetchHalf(address int) (int, exception) {
	at, met := x.translate(address, api.Fetch)
	if !met.none() {
		return 0, met
	}
	if !x.isRam(at, 2) {
		return 0, exception{api.CauseFetchAccess, address}
	}
	return x.ramNumber(at, 2), met
}

// count lets the counters go on behind a step, but for those that are held: bits of mcountinhibit (P8).
func (x *Machine) count(retired bool, held int) {
	if held&countCycle == 0 {
		x.csrs.cycle = x.csrs.cycle.plus(1)
	}
	if retired && held&countInstret == 0 {
		x.csrs.instret = x.csrs.instret.plus(1)
	}
}
