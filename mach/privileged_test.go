package mach_test

import (
	"testing"

	"machine/api"
)

// left tells how mstatus stands ahead of a return and behind it.
type left struct{ before, after, mode int }

func TestMret(t *testing.T) {
	for _, c := range []left{
		{0, mpie, api.User},
		{mpie, mpie | mie, api.User},
		{mie, mpie, api.User},
		{mie | mpie, mpie | mie, api.User},
		{1 << 11, mpie, api.Super},
		{1<<11 | mpie, mpie | mie, api.Super},
		{3 << 11, mpie, api.Mach},
		{3<<11 | mpie, mpie | mie, api.Mach},
		{mprv, mpie, api.User},
		{mprv | 1<<11, mpie, api.Super},
		{mprv | 3<<11, mpie | mprv, api.Mach},
		{sie | spie | spp, sie | spie | spp | mpie, api.User},
		{0x7e19aa, 0x7e01aa, api.Mach},
		{0x7e0922, 0x7c01a2, api.Super},
		{spie, spie | mpie, api.User},
		{sie, sie | mpie, api.User},
	} {
		m := booted(t, 64, set(1, base+0x1235), "csrrw x0, 0x341, x1", set(1, 0x4321), "csrrw x0, 0x141, x1", set(1, c.before), "csrrw x0, 0x300, x1", "mret")
		retire(t, m, 9)
		wantCsr(t, m, api.CsrMstatus, c.before)
		retire(t, m, 1)
		wantCsr(t, m, api.CsrMstatus, c.after)
		wantMode(t, m, c.mode)
		wantPc(t, m, base+0x1234)
		wantCsr(t, m, api.CsrMepc, base+0x1234)
		wantCsr(t, m, api.CsrMcause, 0)
		if t.Failed() {
			t.Fatalf("mret with mstatus %#x", c.before)
		}
	}
}

func TestSretInModeM(t *testing.T) {
	for _, c := range []left{
		{0, spie, api.User},
		{spie, spie | sie, api.User},
		{sie, spie, api.User},
		{sie | spie, spie | sie, api.User},
		{spp, spie, api.Super},
		{spp | spie, spie | sie, api.Super},
		{mprv, spie, api.User},
		{mprv | spp, spie, api.Super},
		{mprv | spp | 3<<11, spie | 3<<11, api.Super},
		{mie | mpie | 1<<11, mie | mpie | 1<<11 | spie, api.User},
		{mpie, mpie | spie, api.User},
		{0x7e19aa, 0x7c18aa, api.Super},
	} {
		m := booted(t, 64, set(1, base+0x1235), "csrrw x0, 0x141, x1", set(1, 0x4321), "csrrw x0, 0x341, x1", set(1, c.before), "csrrw x0, 0x300, x1", "sret")
		retire(t, m, 9)
		wantCsr(t, m, api.CsrMstatus, c.before)
		retire(t, m, 1)
		wantCsr(t, m, api.CsrMstatus, c.after)
		wantMode(t, m, c.mode)
		wantPc(t, m, base+0x1234)
		wantCsr(t, m, api.CsrSepc, base+0x1234)
		if t.Failed() {
			t.Fatalf("sret with mstatus %#x", c.before)
		}
	}
}

func TestSretInModeS(t *testing.T) {
	for _, c := range []left{
		{0, spie, api.User},
		{spp | spie, spie | sie, api.Super},
		{spp | sie | tw | tvm, spie | tw | tvm, api.Super},
		{spie | mie, spie | sie | mie, api.User},
	} {
		m := entered(t, api.Super, []put{{api.CsrSepc, base + 0x234}, {api.CsrMstatus, c.before}}, "sret")
		retire(t, m, 1)
		wantCsr(t, m, api.CsrMstatus, c.after|mpie)
		wantMode(t, m, c.mode)
		wantPc(t, m, base+0x234)
	}
}

// Which of them may be, in every mode and with every one of the three bits that forbid them.
func TestWhereReturnsAndWaitsMayBe(t *testing.T) {
	for _, mode := range modes() {
		for bits := range 8 {
			status := bits&1*tvm | bits>>1&1*tw | bits>>2*tsr
			for _, c := range []struct {
				line   string
				forbid int
			}{
				{"mret", 1<<32 - 1},
				{"sret", tsr},
				{"wfi", tw},
				{"sfence.vma x0, x0", tvm},
				{"sfence.vma x1, x2", tvm},
			} {
				m := entered(t, mode, []put{{api.CsrMstatus, status}, {api.CsrSepc, base + 0x100}, {api.CsrMepc, base}}, set(1, base+0x700), "lr.w x2, x1, 0", c.line)
				retire(t, m, 3)
				open := mode == api.Mach || mode == api.Super && c.forbid != 1<<32-1 && status&c.forbid == 0
				follow := m.Copy()
				if !open {
					refused(t, m)
					wantReserved(t, m, base+0x700)
				} else {
					retire(t, m, 1)
				}
				follows(t, follow)
				if m.Show() != follow.Show() {
					t.Errorf("%s: two machines that did the same differ", c.line)
				}
			}
		}
	}
}

func TestSfenceChangesNothing(t *testing.T) {
	for _, mode := range []int{api.Super, api.Mach} {
		m := entered(t, mode, []put{{api.CsrMstatus, sie | mie}, {api.CsrSatp, 0x1234}}, set(1, base+0x700), "lr.w x2, x1, 0", "sfence.vma x1, x2")
		retire(t, m, 3)
		before, ram := m.Show(), peek(t, m, 0, 4096)
		cycle, _ := m.Csr(api.CsrMcycle)
		retire(t, m, 1)
		after := m.Show()
		if after[4:csrsAt+4*19] != before[4:csrsAt+4*19] || after[devicesAt:] != before[devicesAt:] || peek(t, m, 0, 4096) != ram {
			t.Errorf("sfence.vma changes something")
		}
		wantPc(t, m, base+16)
		wantCsr(t, m, api.CsrMcycle, cycle+1)
	}
}

func TestReturnsEndAReservation(t *testing.T) {
	for _, line := range []string{"mret", "sret"} {
		m := entered(t, api.Mach, []put{{api.CsrSepc, base + 0x100}}, set(1, base+0x700), set(2, base+0x100), "csrrw x0, 0x341, x2", "lr.w x2, x1, 0", line)
		lay(t, m, 0x100, image(t, "sc.w x3, x1, x1, 0"))
		retire(t, m, 6)
		wantReserved(t, m, base+0x700)
		retire(t, m, 1)
		wantUnreserved(t, m)
		retire(t, m, 1)
		wantReg(t, m, 3, 1)
		wantRam(t, m, 0x700, four(0))
	}
	m := entered(t, api.Super, []put{{api.CsrSepc, base + 0x100}}, set(1, base+0x700), "lr.w x2, x1, 0", "sret")
	retire(t, m, 4)
	wantUnreserved(t, m)
	wantMode(t, m, api.User)
	// wfi, sfence.vma and instructions of CSRs do not.
	m = entered(t, api.Mach, nil, set(1, base+0x700), "lr.w x2, x1, 0", "sfence.vma x0, x0", "csrrwi x0, 0x340, 5", "wfi")
	retire(t, m, 6)
	wantReserved(t, m, base+0x700)
	wantStep(t, m, api.Idle, 0)
	wantReserved(t, m, base+0x700)
}

// Below mode M an address is as well physical where satp's bit 31 is 0: memory is reached, and RAM's end is where it was.
func TestModesReachMemory(t *testing.T) {
	for _, mode := range modes() {
		m := entered(t, mode, []put{{api.CsrMtvec, machHandler}}, set(1, base+0x700), "addi x2, x0, 77", "sw x2, 0(x1)", "lw x3, 0(x1)", "amoadd.w x4, x2, x1, 0", set(5, base+4094), "sw x2, 0(x5)")
		retire(t, m, 8)
		wantReg(t, m, 3, 77)
		wantRam(t, m, 0x700, four(154))
		wantStep(t, m, api.Exception, 7)
		wantCsr(t, m, api.CsrMtval, base+4096)
		wantCsr(t, m, api.CsrMstatus, mode<<11)
	}
}
