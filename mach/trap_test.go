package mach_test

import (
	"testing"

	"machine/api"
	"machine/mach"
)

const (
	machHandler  = base + 0x400 // where traps of the two modes go on in these tests
	superHandler = base + 0x500
)

// An exceptional play: lines the last of which, at place 16, meets an exception.
type exceptional struct {
	name  string
	line  string
	cause int
	tval  int
	epc   int
}

// exceptionals are the exceptions that a mode can meet where addresses are physical. x1 is 16, x2 is base + 0x602.
func exceptionals(mode int) []exceptional {
	at := base + 16
	return []exceptional{
		{"a fetch", "jalr x0, 2(x1)", 1, 18, 18},
		{"a word that means nothing", ".word 0xffffffff", 2, 0xffffffff, at},
		{"a half word that means nothing", ".half 0x8002", 2, 0x8002, at},
		{"no such CSR", "csrrs x3, 0x7c0, x0", 2, 0x7c0021f3, at},
		{"a break", "ebreak", 3, at, at},
		{"a short break", "c.ebreak", 3, at, at},
		{"lr.w not aligned", "lr.w x3, x2, 0", 4, base + 0x602, at},
		{"a load", "lb x3, -1(x1)", 5, 15, at},
		{"lr.w outside", "lr.w x3, x1, 0", 5, 16, at},
		{"sc.w not aligned", "sc.w x3, x3, x2, 0", 6, base + 0x602, at},
		{"an amo not aligned", "amoor.w x3, x3, x2, 0", 6, base + 0x602, at},
		{"a store", "sw x3, 4(x1)", 7, 20, at},
		{"an amo outside", "amoor.w x3, x3, x1, 0", 7, 16, at},
		{"a call", "ecall", 8 + mode, 0, at},
	}
}

// stood tells a machine in a mode that stands at such a line, or behind the jump that it is.
func stood(t *testing.T, mode int, e exceptional, puts ...put) *mach.Machine {
	t.Helper()
	puts = append([]put{{api.CsrMtvec, machHandler}, {api.CsrStvec, superHandler}}, puts...)
	m := entered(t, mode, puts, set(1, 16), set(2, base+0x602), e.line)
	retire(t, m, 4)
	if e.cause == 1 {
		retire(t, m, 1)
	}
	return m
}

func TestWhereExceptionsGo(t *testing.T) {
	for _, mode := range modes() {
		for _, e := range exceptionals(mode) {
			for _, deleg := range []int{0, 0xb3ff, 1 << e.cause, 0xb3ff &^ (1 << e.cause)} {
				m := stood(t, mode, e, put{api.CsrMedeleg, deleg}, put{api.CsrMideleg, 0x222})
				toSuper := mode != api.Mach && deleg&0xb3ff>>e.cause&1 == 1
				before := modelOf(m)
				follow := m.Copy()
				wantStep(t, m, api.Exception, e.cause)
				if toSuper {
					wantMode(t, m, api.Super)
					wantPc(t, m, superHandler)
					wantCsr(t, m, api.CsrScause, e.cause)
					wantCsr(t, m, api.CsrStval, e.tval)
					wantCsr(t, m, api.CsrSepc, e.epc)
					for _, n := range []int{api.CsrMcause, api.CsrMtval, api.CsrMepc} {
						wantCsr(t, m, n, before.csr[n])
					}
				} else {
					wantMode(t, m, api.Mach)
					wantPc(t, m, machHandler)
					wantCsr(t, m, api.CsrMcause, e.cause)
					wantCsr(t, m, api.CsrMtval, e.tval)
					wantCsr(t, m, api.CsrMepc, e.epc)
					for _, n := range []int{api.CsrScause, api.CsrStval, api.CsrSepc} {
						wantCsr(t, m, n, 0)
					}
				}
				if t.Failed() {
					t.Fatalf("mode %d, medeleg %#x: %s", mode, deleg, e.name)
				}
				if e.cause == 2 && e.tval > 0xffff || e.cause == 3 && e.line == "ebreak" || e.cause == 1 || e.cause >= 8 {
					follows(t, follow)
				}
			}
		}
	}
}

// A call in mode M is never delegated: medeleg has no bit 11.
func TestCallsOfModeM(t *testing.T) {
	m := entered(t, api.Mach, []put{{api.CsrMedeleg, 1<<32 - 1}, {api.CsrMtvec, machHandler}}, "ecall")
	meets(t, m, 11, 0)
	wantCsr(t, m, api.CsrMedeleg, 0xb3ff)
	wantPc(t, m, machHandler)
}

func TestWhatATrapLeavesOfMstatus(t *testing.T) {
	for _, c := range []struct {
		mode, deleg  int
		before, want int // mstatus; ahead of the trap MPIE is 1 and MPP 0
	}{
		{api.User, 0, mpie, 0},
		{api.Super, 0, mpie, 1 << 11},
		{api.Mach, 0, mpie, 3 << 11},
		{api.User, 0, mpie | mie, mpie},
		{api.Super, 0, mpie | mie, mpie | 1<<11},
		{api.Mach, 0, mpie | mie, mpie | 3<<11},
		{api.Mach, 0, mpie | 0x7e012a | mie, mpie | 3<<11 | 0x7e0122},
		{api.User, 1 << 3, mpie, mpie},
		{api.User, 1 << 3, mpie | sie, mpie | spie},
		{api.User, 1 << 3, mpie | spie, mpie},
		{api.User, 1 << 3, mpie | spp, mpie},
		{api.Super, 1 << 3, mpie, mpie | spp},
		{api.Super, 1 << 3, mpie | sie | spie, mpie | spie | spp},
		{api.Super, 1 << 3, mpie | spie, mpie | spp},
		{api.Super, 1 << 3, mpie | mie | sie | 0x7e0000, mpie | mie | spie | spp | 0x7e0000},
	} {
		m := entered(t, c.mode, []put{{api.CsrMstatus, c.before}, {api.CsrMedeleg, c.deleg}}, "ebreak")
		// The mret that entered a mode below M has cleared MPRV.
		before, _ := m.Csr(api.CsrMstatus)
		if before&^mprv != c.before&^mprv {
			t.Fatalf("mstatus %#x, want %#x", before, c.before)
		}
		want := c.want&^mprv | before&mprv
		wantStep(t, m, api.Exception, 3)
		if got, _ := m.Csr(api.CsrMstatus); got != want {
			t.Errorf("mode %d, mstatus %#x: %#x behind the trap, want %#x", c.mode, before, got, want)
		}
	}
}

// Whatever MPP, MPIE, SPP and SPIE were, the trap overwrites those of its own mode alone.
func TestATrapOverwritesItsModesBits(t *testing.T) {
	for bits := range 1 << 6 {
		status := bits&1*sie | bits>>1&1*mie | bits>>2&1*spie | bits>>3&1*mpie | bits>>4&1*spp | bits>>5&1*mpp
		m := booted(t, 64, set(1, status), "csrrw x0, 0x300, x1", "ebreak")
		retire(t, m, 3)
		wantCsr(t, m, api.CsrMstatus, status)
		want := status&^(mie|mpie) | mpp
		if status&mie != 0 {
			want |= mpie
		}
		meets(t, m, 3, base+12)
		wantCsr(t, m, api.CsrMstatus, want)
		// Behind sret SPIE is 1 and SPP 0, MPP and MPIE stay.
		m = entered(t, api.Mach, []put{{api.CsrMedeleg, 1 << 3}, {api.CsrSepc, base + 64}}, set(1, status), "csrrw x0, 0x300, x1", "sret")
		lay(t, m, 64, image(t, "ebreak"))
		retire(t, m, 4)
		mode := bits >> 4 & 1
		wantMode(t, m, mode)
		wantStep(t, m, api.Exception, 3)
		want = status &^ (sie | spie | spp)
		if status&spie != 0 {
			want |= spie
		}
		wantCsr(t, m, api.CsrMstatus, want|mode*spp)
		wantCsr(t, m, api.CsrScause, 3)
	}
}

func TestWhereTvecPoints(t *testing.T) {
	for _, c := range []struct{ tvec, exception, interrupt int }{
		{base + 0x100, base + 0x100, base + 0x100},
		{base + 0x101, base + 0x100, base + 0x100 + 4},
		{base + 0x104, base + 0x104, base + 0x104},
		{base + 0x105, base + 0x104, base + 0x104 + 4},
		{base + 0x10d, base + 0x10c, base + 0x10c + 4},
		// Bit 1 is not kept.
		{base + 0x102, base + 0x100, base + 0x100},
		{base + 0x103, base + 0x100, base + 0x100 + 4},
		{0, 0, 0}, {1, 0, 4}, {0xfffffffc, 0xfffffffc, 0xfffffffc},
		// Sums leave carries away.
		{0xfffffffd, 0xfffffffc, 0},
	} {
		for _, mode := range modes() {
			puts := []put{{api.CsrMtvec, c.tvec}, {api.CsrStvec, 0x40}}
			m := entered(t, mode, puts, "ecall")
			wantStep(t, m, api.Exception, 8+mode)
			wantPc(t, m, c.exception)
			puts = append(puts, put{api.CsrMie, ssoft}, put{api.CsrMip, ssoft}, put{api.CsrMstatus, mie})
			m = entered(t, mode, puts)
			wantStep(t, m, api.Interrupt, 1)
			wantPc(t, m, c.interrupt)
			wantMode(t, m, api.Mach)
			if mode == api.Mach {
				continue
			}
			puts = []put{{api.CsrStvec, c.tvec}, {api.CsrMtvec, 0x40}, {api.CsrMedeleg, 0xb3ff}, {api.CsrMideleg, 0x222}}
			m = entered(t, mode, puts, "ecall")
			wantStep(t, m, api.Exception, 8+mode)
			wantPc(t, m, c.exception)
			puts = append(puts, put{api.CsrMie, ssoft}, put{api.CsrMip, ssoft}, put{api.CsrMstatus, sie})
			m = entered(t, mode, puts)
			wantStep(t, m, api.Interrupt, 1)
			wantPc(t, m, c.interrupt)
			wantMode(t, m, api.Super)
		}
	}
}

// Each interrupt by itself, from the line or the bit that asks for it.
func TestEachInterrupt(t *testing.T) {
	for _, c := range []struct {
		number int
		lines  []string // they raise it; x1 is the timer block, x2 the port
		deleg  bool
	}{
		{3, []string{"addi x3, x0, 1", "sw x3, 0(x1)"}, false},
		{7, []string{set(3, 0x4000), "add x3, x3, x1", "sw x0, 0(x3)", "sw x0, 4(x3)"}, false},
		{11, []string{"addi x3, x0, 2", "sb x3, 1(x2)"}, false},
		{9, []string{"addi x3, x0, 2", "sb x3, 1(x2)"}, true},
		{9, []string{set(3, sext), "csrrs x0, 0x344, x3"}, true},
		{1, []string{"csrrsi x0, 0x344, 2"}, true},
		{5, []string{set(3, stime), "csrrs x0, 0x344, x3"}, true},
	} {
		for _, deleg := range []int{0, 0x222} {
			for vectored := range 2 {
				lines := append([]string{set(1, api.TimerBase), set(2, api.PortBase), set(4, deleg), "csrrw x0, 0x303, x4", set(4, machHandler+vectored), "csrrw x0, 0x305, x4",
					set(4, superHandler+vectored), "csrrw x0, 0x105, x4", set(4, 1<<c.number), "csrrw x0, 0x304, x4", set(4, base+0x600), "csrrw x0, 0x341, x4"}, c.lines...)
				s := image(t, append(lines, "mret")...)
				m := made(t, 4096)
				lay(t, m, 0, s)
				retire(t, m, len(s)/4)
				wantMode(t, m, api.User)
				wantStep(t, m, api.Interrupt, c.number)
				if c.deleg && deleg != 0 {
					wantMode(t, m, api.Super)
					wantPc(t, m, superHandler+4*vectored*c.number)
					wantCsr(t, m, api.CsrScause, 1<<31+c.number)
					wantCsr(t, m, api.CsrSepc, base+0x600)
					wantCsr(t, m, api.CsrStval, 0)
					wantCsr(t, m, api.CsrMcause, 0)
				} else {
					wantMode(t, m, api.Mach)
					wantPc(t, m, machHandler+4*vectored*c.number)
					wantCsr(t, m, api.CsrMcause, 1<<31+c.number)
					wantCsr(t, m, api.CsrMepc, base+0x600)
					wantCsr(t, m, api.CsrMtval, 0)
					wantCsr(t, m, api.CsrScause, 0)
				}
				if t.Failed() {
					t.Fatalf("interrupt %d, mideleg %#x", c.number, deleg)
				}
			}
		}
	}
}

// All of mip, some of mie and mideleg, every mode and enable: which interrupt is taken.
func TestWhichInterruptIsTaken(t *testing.T) {
	for bits := range 8 {
		// The lines of msip, the port and the timer, and what is written.
		for _, mip := range []int{0, ssoft, stime, sext, 0x222} {
			m := made(t, 2048)
			s := image(t, set(1, api.TimerBase), set(2, api.PortBase), set(3, bits&1), "sw x3, 0(x1)", set(3, bits>>1&1*2), "sb x3, 1(x2)",
				set(3, 0x4000), "add x3, x3, x1", set(4, bits>>2&1*9-1), "sw x4, 0(x3)", "sw x4, 4(x3)", set(3, mip), "csrrw x0, 0x344, x3")
			lay(t, m, 0, s)
			retire(t, m, len(s)/4)
			if bits>>2&1 == 1 {
				for range 9 {
					m.Tick(1<<32 - 1)
				}
			}
			for _, mask := range []int{0xaaa, 0x222, 0x888, 0x2a8, 0} {
				for _, deleg := range []int{0, 0x222, ssoft, stime, sext} {
					interruptedIn(t, m, mask, deleg, (mask+deleg)%4 == 0)
				}
			}
		}
	}
}

// interruptedIn lets a machine in mode M, with pc in RAM, take what interrupt it may in each mode and with each enable.
func interruptedIn(t *testing.T, m *mach.Machine, mask int, deleg int, vectored bool) {
	t.Helper()
	at := m.Pc() - base
	tvec := machHandler
	if vectored {
		tvec++
	}
	for _, mode := range modes() {
		for enables := range 4 {
			n := m.Copy()
			s := csrw(t, api.CsrMtvec, tvec) + csrw(t, api.CsrStvec, superHandler) + csrw(t, api.CsrMideleg, deleg) + csrw(t, api.CsrMie, mask) +
				csrw(t, api.CsrMepc, base+0x600) + csrw(t, api.CsrMstatus, enables&1*sie|enables>>1*mpie|mode<<11) + wordOf(t, api.Ins{Op: api.Mret, Len: 4})
			lay(t, n, at, s)
			retire(t, n, len(s)/4)
			lay(t, n, 0x600, image(t, "addi x1, x0, 1"))
			follows(t, n)
			lay(t, n, 0x604, image(t, "addi x1, x0, 1"))
			if n.Pc() == machHandler || n.Pc() == superHandler {
				lay(t, n, n.Pc()-base, image(t, "addi x1, x0, 2"))
			}
			follows(t, n)
		}
	}
}

// The order, in literal numbers: each next one is taken when those ahead of it are masked.
func TestUrgency(t *testing.T) {
	for _, deleg := range []int{0, 0x222} {
		for _, c := range []struct{ mask, want int }{
			{0xaaa, 11}, {0x2aa, 3}, {0x2a2, 7}, {0x222, 9}, {0x022, 1}, {0x020, 5}, {0x220, 9}, {0x0a2, 7}, {0x82a, 11}, {0x02a, 3},
		} {
			m := lined(t, 0x222, set(1, deleg), "csrrw x0, 0x303, x1", set(1, c.mask), "csrrw x0, 0x304, x1", "mret")
			retire(t, m, 7)
			wantStep(t, m, api.Interrupt, c.want)
			want := api.Mach
			if deleg != 0 && c.want%4 == 1 {
				want = api.Super
			}
			wantMode(t, m, want)
		}
	}
	// Those of mode M come first, even if one of mode S is more urgent by its number.
	m := lined(t, 0x222, set(1, sext|ssoft), "csrrw x0, 0x303, x1", set(1, 0x222), "csrrw x0, 0x304, x1", "mret")
	retire(t, m, 7)
	wantStep(t, m, api.Interrupt, 5)
	wantMode(t, m, api.Mach)
}

func TestWhichModesInterruptsReach(t *testing.T) {
	for _, mode := range modes() {
		for enables := range 4 {
			status := enables&1*sie | enables>>1*mie
			for _, delegated := range []bool{false, true} {
				puts := []put{{api.CsrMie, ssoft}, {api.CsrMip, ssoft}, {api.CsrMstatus, status}, {api.CsrMtvec, machHandler}, {api.CsrStvec, superHandler}}
				want := mode != api.Mach || status&mie != 0
				if delegated {
					puts = append(puts, put{api.CsrMideleg, ssoft})
					want = mode == api.User || mode == api.Super && status&sie != 0
				}
				m := entered(t, mode, puts, "addi x1, x0, 7")
				if !want {
					retire(t, m, 1)
					wantReg(t, m, 1, 7)
					continue
				}
				wantStep(t, m, api.Interrupt, 1)
				wantReg(t, m, 1, 0)
				wantCsr(t, m, api.CsrMip, ssoft)
			}
		}
	}
}

// An interrupt that is taken comes ahead of the fetch: nothing is carried out, nothing retired, and what pc meets is met behind it.
func TestInterruptsComeAheadOfTheFetch(t *testing.T) {
	for _, line := range []string{".word 0xffffffff", "ecall", "addi x1, x0, 1", "sw x0, 0(x0)", "wfi"} {
		m := entered(t, api.User, []put{{api.CsrMie, ssoft}, {api.CsrMip, ssoft}, {api.CsrMtvec, machHandler}}, line)
		lay(t, m, 0x400, image(t, "csrrwi x0, 0x344, 0", "mret"))
		before, _ := m.Csr(api.CsrMinstret)
		cycles, _ := m.Csr(api.CsrMcycle)
		wantStep(t, m, api.Interrupt, 1)
		wantCsr(t, m, api.CsrMinstret, before)
		wantCsr(t, m, api.CsrMcycle, cycles+1)
		wantCsr(t, m, api.CsrMepc, base)
		retire(t, m, 2)
		wantPc(t, m, base)
		wantMode(t, m, api.User)
		d := m.Step()
		if retired := line == "addi x1, x0, 1"; retired != (d.Kind == api.Retired) || d.Kind == api.Interrupt {
			t.Errorf("%s: %v", line, d)
		}
	}
	// Where pc is outside RAM.
	m := booted(t, 256, "csrrwi x0, 0x304, 2", "csrrwi x0, 0x344, 2", "csrrwi x0, 0x300, 8")
	retire(t, m, 3)
	wantStep(t, m, api.Interrupt, 1)
	wantPc(t, m, 0)
	meets(t, m, 1, 0)
	m.Reset()
	lay(t, m, 0, image(t, "csrrwi x0, 0x341, 16", "csrrwi x0, 0x304, 2", "csrrwi x0, 0x344, 2", "mret"))
	retire(t, m, 4)
	wantPc(t, m, 16)
	wantStep(t, m, api.Interrupt, 1)
	wantCsr(t, m, api.CsrMepc, 16)
}

// An interrupt in a mode is over once its cause is gone, and is taken again as long as it is not.
func TestInterruptsComeAgain(t *testing.T) {
	m := entered(t, api.Mach, []put{{api.CsrMie, mtime}, {api.CsrMstatus, mie}, {api.CsrMtvec, machHandler}},
		set(1, api.TimerBase+0x4000), "addi x2, x0, 5", "sw x2, 0(x1)", "sw x0, 4(x1)", "loop: addi x3, x3, 1", "jal x0, loop")
	lay(t, m, 0x400, image(t, "addi x4, x4, 1", "mret"))
	retire(t, m, 20)
	m.Tick(4)
	retire(t, m, 1)
	m.Tick(1)
	for k := range 3 {
		at := m.Pc()
		wantStep(t, m, api.Interrupt, 7)
		wantCsr(t, m, api.CsrMcause, 1<<31+7)
		wantCsr(t, m, api.CsrMepc, at)
		retire(t, m, 2)
		wantReg(t, m, 4, k+1)
		wantPc(t, m, at)
	}
	wantStep(t, m, api.Interrupt, 7)
	lay(t, m, 0x400, image(t, "addi x2, x0, 6", "sw x2, 0(x1)", "mret"))
	retire(t, m, 20)
	m.Tick(1)
	wantStep(t, m, api.Interrupt, 7)
}

// A byte that arrives interrupts till it is read.
func TestThePortInterrupts(t *testing.T) {
	for _, mode := range modes() {
		for _, deleg := range []int{0, sext} {
			m := entered(t, mode, []put{{api.CsrMideleg, deleg}, {api.CsrMie, mext | sext}, {api.CsrMstatus, mie | sie}, {api.CsrMtvec, machHandler}, {api.CsrStvec, superHandler}},
				set(1, api.PortBase), "addi x2, x0, 1", "sb x2, 1(x1)", "loop: addi x3, x3, 1", "jal x0, loop")
			lay(t, m, 0x400, image(t, "lbu x4, 0(x1)", "mret"))
			lay(t, m, 0x500, image(t, "lbu x5, 0(x1)", "sret"))
			retire(t, m, 9)
			m.Feed("ab")
			for _, want := range "ab" {
				wantStep(t, m, api.Interrupt, 11)
				wantMode(t, m, api.Mach)
				retire(t, m, 2)
				wantReg(t, m, 4, int(want))
				wantMode(t, m, mode)
			}
			retire(t, m, 9)
			wantReg(t, m, 5, 0)
		}
	}
	// Delegated, and the one of mode M masked.
	m := entered(t, api.User, []put{{api.CsrMideleg, sext}, {api.CsrMie, sext}, {api.CsrStvec, superHandler}}, set(1, api.PortBase), "addi x2, x0, 1", "sb x2, 1(x1)", "addi x3, x3, 1", "jal x0, -4")
	lay(t, m, 0x500, image(t, "lbu x5, 0(x1)", "sret"))
	retire(t, m, 9)
	m.Feed("z")
	wantStep(t, m, api.Interrupt, 9)
	wantMode(t, m, api.Super)
	retire(t, m, 2)
	wantReg(t, m, 5, 'z')
	wantMode(t, m, api.User)
	retire(t, m, 9)
}

func TestTrapsDoNotEndAReservation(t *testing.T) {
	for _, mode := range modes() {
		for _, deleg := range []int{0, 1} {
			m := entered(t, mode, []put{{api.CsrMedeleg, deleg * 0xb3ff}, {api.CsrMideleg, deleg * 0x222}, {api.CsrMtvec, machHandler}, {api.CsrStvec, superHandler}},
				set(1, base+0x700), "lr.w x2, x1, 0", "ecall")
			lay(t, m, 0x400, image(t, "csrrwi x0, 0x304, 2", "csrrwi x0, 0x344, 2", "csrrwi x0, 0x300, 8"))
			retire(t, m, 3)
			wantStep(t, m, api.Exception, 8+mode)
			wantReserved(t, m, base+0x700)
			if m.Mode() == api.Mach {
				retire(t, m, 3)
				if deleg == 0 {
					wantStep(t, m, api.Interrupt, 1)
				}
				wantReserved(t, m, base+0x700)
			}
		}
	}
}

// Handlers nest: what a trap left is what the next overwrites.
func TestTrapsInHandlers(t *testing.T) {
	m := entered(t, api.User, []put{{api.CsrMedeleg, 1 << 8}, {api.CsrMtvec, machHandler}, {api.CsrStvec, superHandler}, {api.CsrMstatus, sie | mie}}, "ecall", "addi x9, x0, 1")
	lay(t, m, 0x500, image(t, "ecall", "csrrs x5, 0x141, x0", "addi x5, x5, 4", "csrrw x0, 0x141, x5", "sret"))
	lay(t, m, 0x400, image(t, "csrrs x6, 0x341, x0", "addi x6, x6, 4", "csrrw x0, 0x341, x6", "csrrs x7, 0x300, x0", "mret"))
	wantStep(t, m, api.Exception, 8)
	wantMode(t, m, api.Super)
	wantStep(t, m, api.Exception, 9)
	wantMode(t, m, api.Mach)
	retire(t, m, 5)
	wantReg(t, m, 7, mpie|spie|1<<11)
	wantReg(t, m, 6, superHandler+4)
	wantMode(t, m, api.Super)
	retire(t, m, 4)
	wantMode(t, m, api.User)
	wantPc(t, m, base+4)
	wantCsr(t, m, api.CsrMstatus, mpie|spie|sie|mie)
	retire(t, m, 1)
	wantReg(t, m, 9, 1)
}
