package mach

import "machine/api"

// The CSRs that can be written, and the counters.
type csrs struct {
	mstatus, medeleg, mideleg, mie      int
	mip                                 int // what was written of it, without the lines
	mtvec, mcounteren, mcountinhibit    int
	mscratch, mepc, mcause, mtval       int
	stvec, scounteren                   int
	sscratch, sepc, scause, stval, satp int
	cycle, instret                      wide
}

// Bits of mstatus.
const (
	statusSie      = 1 << 1
	statusMie      = 1 << 3
	statusSpie     = 1 << 5
	statusMpie     = 1 << 7
	statusSpp      = 1 << statusSppShift
	statusSppShift = 8
	statusMpp      = 3 << statusMppShift
	statusMppShift = 11
	statusMprv     = 1 << 17
	statusSum      = 1 << 18
	statusMxr      = 1 << 19
	statusTvm      = 1 << 20
	statusTw       = 1 << 21
	statusTsr      = 1 << 22
	machStatus     = 0x7e19aa // all that it keeps
	superStatus    = 0xc0122  // those that sstatus has: SIE, SPIE, SPP, SUM, MXR
)

// What other CSRs keep.
const (
	keptMedeleg = 0xb3ff
	keptMideleg = 0x222
	keptMie     = 0xaaa
	keptMip     = 0x222
	keptCounter = 7 // of mcounteren and scounteren
	keptInhibit = countCycle | countInstret
	lostOfTvec  = 2
	lostOfEpc   = 1
)

// The counters, as bits of mcountinhibit.
const (
	countCycle   = 1
	countInstret = 4
)

// readCsr tells what a CSR reads, and whether there is such a one (P13).
func (x *Machine) readCsr(n int) (int, bool) {
	switch {
	case n >= 0x100 && n <= 0x1ff:
		return x.readSuper(n)
	case n >= 0x300 && n <= 0x3ff:
		return x.readMach(n)
	case n >= 0xb00 && n <= 0xcff:
		return x.readCounter(n)
	}
	return 0, n >= api.CsrMvendorid && n <= api.CsrMhartid
}

func (x *Machine) readSuper(n int) (int, bool) {
	c := x.csrs
	switch n {
	case api.CsrSstatus:
		return c.mstatus & superStatus, true
	case api.CsrSie:
		return c.mie & c.mideleg, true
	case api.CsrStvec:
		return c.stvec, true
	case api.CsrScounteren:
		return c.scounteren, true
	case api.CsrSscratch:
		return c.sscratch, true
	case api.CsrSepc:
		return c.sepc, true
	case api.CsrScause:
		return c.scause, true
	case api.CsrStval:
		return c.stval, true
	case api.CsrSip:
		return x.pending() & c.mideleg, true
	case api.CsrSatp:
		return c.satp, true
	}
	return 0, false
}

func (x *Machine) readMach(n int) (int, bool) {
	c := x.csrs
	switch n {
	case api.CsrMstatus:
		return c.mstatus, true
	case api.CsrMisa:
		return api.Misa, true
	case api.CsrMedeleg:
		return c.medeleg, true
	case api.CsrMideleg:
		return c.mideleg, true
	case api.CsrMie:
		return c.mie, true
	case api.CsrMtvec:
		return c.mtvec, true
	case api.CsrMcounteren:
		return c.mcounteren, true
	case api.CsrMcountinhibit:
		return c.mcountinhibit, true
	case api.CsrMscratch:
		return c.mscratch, true
	case api.CsrMepc:
		return c.mepc, true
	case api.CsrMcause:
		return c.mcause, true
	case api.CsrMtval:
		return c.mtval, true
	case api.CsrMip:
		return x.pending(), true
	}
	// The events that further counters might count.
	return 0, n >= 0x323 && n <= 0x33f
}

// pending tells what mip reads.
func (x *Machine) pending() int {
	return x.csrs.mip | x.timer.lines() | x.port.lines()
}

// readCounter reads the counters 0xb00 to 0xb9f and their views 0xc00 to 0xc9f.
func (x *Machine) readCounter(n int) (int, bool) {
	which := n % 32
	high := n%256 >= 0x80
	if n%256-0x80*oneIf(high) >= 32 {
		return 0, false
	}
	value := wide{}
	switch which {
	case 0:
		value = x.csrs.cycle
	case 1:
		// The time has no counter of mode M: mtime itself lies in the timer block.
		if n < api.CsrCycle {
			return 0, false
		}
		value = x.timer.time
	case 2:
		value = x.csrs.instret
	}
	if high {
		return value.high, true
	}
	return value.low, true
}
