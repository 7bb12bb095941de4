package mach

import "machine/api"

// write lays into a CSR what it keeps of v; one that can't be written stays as it is (P13).
func (c *csrs) write(n int, v int) {
	switch {
	case n >= 0x100 && n <= 0x1ff:
		c.writeSuper(n, v)
	case n >= 0x300 && n <= 0x3ff:
		c.writeMach(n, v)
	default:
		c.writeCounter(n, v)
	}
}

func (c *csrs) writeSuper(n int, v int) {
	switch n {
	case api.CsrSstatus:
		c.mstatus = mixed(c.mstatus, v, superStatus)
	case api.CsrSie:
		c.mie = mixed(c.mie, v, c.mideleg)
	case api.CsrStvec:
		c.stvec = v &^ lostOfTvec
	case api.CsrScounteren:
		c.scounteren = v & keptCounter
	case api.CsrSscratch:
		c.sscratch = v
	case api.CsrSepc:
		c.sepc = v &^ lostOfEpc
	case api.CsrScause:
		c.scause = v
	case api.CsrStval:
		c.stval = v
	case api.CsrSip:
		// Of those that it reads mode S may ask for its software interrupt alone.
		c.mip = mixed(c.mip, v, c.mideleg&(1<<api.IrqSsoft))
	case api.CsrSatp:
		c.satp = v
	}
}

func (c *csrs) writeMach(n int, v int) {
	switch n {
	case api.CsrMstatus:
		c.mstatus = statusWritten(c.mstatus, v)
	case api.CsrMedeleg:
		c.medeleg = v & keptMedeleg
	case api.CsrMideleg:
		c.mideleg = v & keptMideleg
	case api.CsrMie:
		c.mie = v & keptMie
	case api.CsrMtvec:
		c.mtvec = v &^ lostOfTvec
	case api.CsrMcounteren:
		c.mcounteren = v & keptCounter
	case api.CsrMcountinhibit:
		c.mcountinhibit = v & keptInhibit
	case api.CsrMscratch:
		c.mscratch = v
	case api.CsrMepc:
		c.mepc = v &^ lostOfEpc
	case api.CsrMcause:
		c.mcause = v
	case api.CsrMtval:
		c.mtval = v
	case api.CsrMip:
		c.mip = v & keptMip
	}
}

func (c *csrs) writeCounter(n int, v int) {
	switch n {
	case api.CsrMcycle:
		c.cycle.low = v
	case api.CsrMcycleh:
		c.cycle.high = v
	case api.CsrMinstret:
		c.instret.low = v
	case api.CsrMinstreth:
		c.instret.high = v
	}
}

// mixed tells v in the bits of a mask, and what was in the others.
func mixed(was int, v int, mask int) int {
	return was&^mask | v&mask
}

// statusWritten tells mstatus behind a write.
func statusWritten(was int, v int) int {
	if v&statusMpp == 2<<statusMppShift {
		// There is no mode 2.
		return mixed(was, v, machStatus&^statusMpp)
	}
	return v & machStatus
}
