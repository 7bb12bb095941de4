package mach

import "machine/api"

// atomic carries out lr.w, sc.w and the amo instructions (P11).
func (x *Machine) atomic(i api.Ins) exception {
	address := x.register(i.Rs1)
	purpose := atomicPurpose(i.Op)
	if address%4 != 0 {
		return exception{alignFault(purpose), address}
	}
	at, met := x.translate(address, purpose)
	if !met.none() {
		return met
	}
	if !x.isRam(at, 4) {
		return exception{faultCause(api.Access, purpose), address}
	}
	switch i.Op {
	case api.LrW:
		x.loadReserved(i, at)
	case api.ScW:
		x.storeConditional(i, at)
	default:
		x.modify(i, at)
	}
	return met
}

func atomicPurpose(op int) int {
	if op == api.LrW {
		return api.Load
	}
	return api.Store
}

func alignFault(purpose int) int {
	if purpose == api.Load {
		return api.CauseLoadAlign
	}
	return api.CauseStoreAlign
}

func (x *Machine) loadReserved(i api.Ins, address int) {
	v := x.ramNumber(address, 4)
	x.setRegister(i.Rd, v)
	x.reserve(address)
}

func (x *Machine) storeConditional(i api.Ins, address int) {
	failed := !x.hart.reserved || x.hart.reservation != address
	if !failed {
		v := x.register(i.Rs2)
		x.setRamNumber(address, 4, v)
	}
	x.setRegister(i.Rd, oneIf(failed))
	x.unreserve()
}

func (x *Machine) modify(i api.Ins, address int) {
	was := x.ramNumber(address, 4)
	v := x.register(i.Rs2)
	x.setRamNumber(address, 4, modified(i.Op, was, v))
	x.setRegister(i.Rd, was)
}

// modified tells what an amo instruction makes of the word that was there and of rs2.
func modified(op int, was int, v int) int {
	switch op {
	case api.AmoAdd:
		return word(was + v)
	case api.AmoXor:
		return was ^ v
	case api.AmoAnd:
		return was & v
	case api.AmoOr:
		return was | v
	case api.AmoMin:
		return choose(signed(was) < signed(v), was, v)
	case api.AmoMax:
		return choose(signed(was) > signed(v), was, v)
	case api.AmoMinu:
		return choose(was < v, was, v)
	case api.AmoMaxu:
		return choose(was > v, was, v)
	}
	return v
}
