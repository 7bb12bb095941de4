package mach

import "machine/api"

// mayDo tells whether mret, sret, wfi or sfence.vma may be in the mode (P14).
func (x *Machine) mayDo(op int) bool {
	switch x.hart.mode {
	case api.Mach:
		return true
	case api.Super:
		return op != api.Mret && x.csrs.mstatus&forbidding(op) == 0
	}
	return false
}

// forbidding tells the bit of mstatus that forbids an instruction in mode S.
func forbidding(op int) int {
	switch op {
	case api.Sret:
		return statusTsr
	case api.Wfi:
		return statusTw
	}
	return statusTvm
}

// privileged carries out mret, sret, wfi or sfence.vma, but for pc (P14).
func (x *Machine) privileged(op int) {
	switch op {
	case api.Mret:
		x.hart.mode = (x.csrs.mstatus & statusMpp) >> statusMppShift
		x.csrs.mstatus = machReturned(x.csrs.mstatus)
		x.unreserve()
	case api.Sret:
		x.hart.mode = (x.csrs.mstatus & statusSpp) >> statusSppShift
		x.csrs.mstatus = superReturned(x.csrs.mstatus)
		x.unreserve()
	case api.Wfi:
		x.hart.waits = true
	}
}

// machReturned tells mstatus behind mret.
func machReturned(status int) int {
	if status&statusMpp != api.Mach<<statusMppShift {
		status = status &^ statusMprv
	}
	status = setIf(status, statusMie, status&statusMpie != 0)
	return status&^statusMpp | statusMpie
}

// superReturned tells mstatus behind sret.
func superReturned(status int) int {
	status = setIf(status, statusSie, status&statusSpie != 0)
	return status&^(statusSpp|statusMprv) | statusSpie
}
