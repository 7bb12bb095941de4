package mach

import "machine/api"

// Size tells how many bytes RAM has (P15).
func (x *Machine) Size() int { return len(x.ram) }

// Reg tells a register (P15).
func (x *Machine) Reg(i int) (int, api.Errno) {
	if i < 0 || i >= len(x.hart.registers) {
		return 0, api.ErrArg
	}
	return x.register(i), api.OK
}

// Pc tells where the next instruction lies (P15).
func (x *Machine) Pc() int { return x.hart.pc }

// Mode tells the mode that the hart is in (P15).
func (x *Machine) Mode() int { return x.hart.mode }

// Csr tells what a CSR reads in mode M (P15).
func (x *Machine) Csr(n int) (int, api.Errno) {
	value, there := x.readCsr(n)
	if !there {
		return 0, api.ErrArg
	}
	return value, api.OK
}

// Peek tells bytes of RAM (P15).
func (x *Machine) Peek(off int, n int) (string, api.Errno) {
	// n is taken from RAM's length, since off and it together might leave int's range.
	if n < 0 || off < 0 || off > len(x.ram)-n {
		return "", api.ErrArg
	}
	return string(x.ram[off : off+n]), api.OK
}

// Show tells the hart, the CSRs and the devices as one text (P15).
func (x *Machine) Show() string {
	return x.hart.show() + x.csrs.show() + x.timer.show() + x.port.show()
}

func (h hart) show() string {
	text := api.Le(h.pc, 4)
	for k := 0; k < len(h.registers); k++ {
		text = text + api.Le(h.registers[k], 4)
	}
	text = text + either(h.waits, "w", "-") + either(h.reserved, "r", "-")
	return text + api.Le(h.reservation, 5) + api.Le(h.mode, 1)
}

func (c csrs) show() string {
	text := api.Le(c.mstatus, 4) + api.Le(c.medeleg, 4) + api.Le(c.mideleg, 4) + api.Le(c.mie, 4) + api.Le(c.mip, 4)
	text = text + api.Le(c.mtvec, 4) + api.Le(c.mcounteren, 4) + api.Le(c.mcountinhibit, 4)
	text = text + api.Le(c.mscratch, 4) + api.Le(c.mepc, 4) + api.Le(c.mcause, 4) + api.Le(c.mtval, 4)
	text = text + api.Le(c.stvec, 4) + api.Le(c.scounteren, 4)
	text = text + api.Le(c.sscratch, 4) + api.Le(c.sepc, 4) + api.Le(c.scause, 4) + api.Le(c.stval, 4)
	return text + api.Le(c.satp, 4) + c.cycle.show() + c.instret.show()
}

func (t timer) show() string {
	return api.Le(t.msip, 1) + t.time.show() + t.compare.show()
}

func (p port) show() string {
	text := api.Le(p.enable, 1) + api.Le(p.scratch, 1) + either(p.lost, "!", ".")
	text = text + api.Le(len(p.received), 1) + p.received
	return text + api.Le(len(p.toSend), 1) + p.toSend
}

func (w wide) show() string {
	return api.Le(w.low, 4) + api.Le(w.high, 4)
}

func either(so bool, yes string, no string) string {
	if so {
		return yes
	}
	return no
}
