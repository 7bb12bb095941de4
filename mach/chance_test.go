package mach_test

import (
	"fmt"
	"math/rand"
	"testing"

	"machine/api"
	"machine/isa"
	"machine/mach"
)

// chanceImage tells a program by chance, most of whose words mean something.
func chanceImage(r *rand.Rand, n int) string {
	s := ""
	for len(s) < n {
		w := int(r.Uint32())
		if r.Intn(2) == 0 {
			w &= 0xffff
		}
		i, e := isa.Decode(w)
		if e == api.OK && (i.Op != api.Illegal || r.Intn(50) == 0) {
			s += api.Le(w, i.Len)
		}
	}
	return s[:n]
}

// sound tells whether a machine's numbers are such as they may be.
func sound(t *testing.T, m *mach.Machine) {
	t.Helper()
	for i := range 32 {
		if v := reg(t, m, i); v < 0 || v > 1<<32-1 || i == 0 && v != 0 {
			t.Fatalf("x%d is %d", i, v)
		}
	}
	if m.Pc() < 0 || m.Pc() > 1<<32-1 || m.Pc()%2 != 0 {
		t.Fatalf("pc is %d", m.Pc())
	}
	for n := range 0x1000 {
		if v, e := m.Csr(n); v < 0 || v > 1<<32-1 || (e == api.OK) != isCsr(n) {
			t.Fatalf("Csr(%#x): %d, %v", n, v, e)
		}
	}
}

// Every call ends and none panics, and a machine that is flushed at each step goes on alike (P1, P7).
func TestProgramsByChance(t *testing.T) {
	r := rand.New(rand.NewSource(1))
	for range 200 {
		size := []int{0, 1, 7, 64, 255, 4096, 4101, api.MaxRam}[r.Intn(8)]
		m := made(t, size)
		lay(t, m, 0, chanceImage(r, min(size, 4096)))
		twin := m.Copy()
		for range 100 {
			if d := m.Step(); d.Kind == api.Exception && m.Pc() == 0 {
				m.Reset()
				twin.Step()
				twin.Reset()
				// Elsewhere the next time: the word that met the exception goes.
				at := r.Intn(size + 1)
				s := chanceImage(r, min(size-at, 4))
				lay(t, m, at, s)
				lay(t, twin, at, s)
				continue
			}
			twin.Step()
			twin.Flush()
			n := r.Intn(api.MaxTick)
			m.Tick(n)
			twin.Tick(n)
		}
		sound(t, m)
		if m.Show() != twin.Show() || peek(t, m, 0, size) != peek(t, twin, 0, size) {
			t.Fatalf("two machines that did the same differ")
		}
	}
}

// chanceCsr tells the number of a CSR by chance; a few are none.
func chanceCsr(r *rand.Rand) int {
	if r.Intn(20) == 0 {
		return r.Intn(0x1000)
	}
	all := append(shownCsrs(), api.CsrSstatus, api.CsrSie, api.CsrSip, api.CsrMisa, api.CsrCycle, api.CsrTime, api.CsrInstret, api.CsrCycleh, api.CsrTimeh, api.CsrInstreth, api.CsrMhartid)
	// Those on which traps hang come more often than others.
	all = append(all, api.CsrMstatus, api.CsrMstatus, api.CsrSstatus, api.CsrMip, api.CsrSip, api.CsrMie, api.CsrSie, api.CsrMideleg, api.CsrMedeleg, api.CsrMepc, api.CsrSepc)
	return all[r.Intn(len(all))]
}

// chanceIns tells an instruction of P13 or P14 by chance, or another that the model knows.
func chanceIns(r *rand.Rand) api.Ins {
	switch r.Intn(14) {
	case 0:
		return api.Ins{Op: api.Mret, Len: 4}
	case 1:
		return api.Ins{Op: api.Sret, Len: 4}
	case 2:
		return api.Ins{Op: []int{api.Wfi, api.Ebreak}[r.Intn(2)], Len: 4}
	case 5:
		return api.Ins{Op: api.Ecall, Len: 4}
	case 3:
		return api.Ins{Op: api.SfenceVma, Rs1: r.Intn(32), Rs2: r.Intn(32), Len: 4}
	case 4:
		return api.Ins{Op: api.Addi, Rd: r.Intn(8), Rs1: r.Intn(8), Imm: r.Intn(4096) - 2048, Len: 4}
	}
	i := api.Ins{Op: api.Csrrw + r.Intn(6), Rd: r.Intn(8), Rs1: r.Intn(8), Imm: chanceCsr(r), Len: 4}
	if i.Op >= api.Csrrwi {
		i.Rs1 = r.Intn(32)
	}
	if i.Imm == api.CsrSatp && i.Op < api.Csrrwi {
		i.Op += 3 // No word would be found any more, were satp's bit 31 set: there are no tables.
	}
	return i
}

// chanceNumber tells what may be in a register.
func chanceNumber(r *rand.Rand, size int) int {
	switch r.Intn(4) {
	case 0:
		return base + r.Intn(size)
	case 1:
		return []int{0, 1<<32 - 1, 0xaaa, 0x222, 0xb3ff, 0x7e19aa, 1 << 11, 3 << 11, 0x888}[r.Intn(9)]
	case 2:
		return 1 << r.Intn(32)
	}
	return int(r.Uint32())
}

// chanceHart tells a machine by chance: its lines, its registers, and traps that go to RAM.
func chanceHart(t *testing.T, r *rand.Rand) *mach.Machine {
	t.Helper()
	size := 2048
	lines := []string{
		set(8, api.TimerBase), set(9, api.PortBase), set(10, api.TimerBase+0x4000),
		set(11, r.Intn(2)), "sw x11, 0(x8)", set(11, r.Intn(8)), "sb x11, 1(x9)", set(11, r.Intn(40)), "sw x11, 0(x10)", set(11, r.Intn(2)), "sw x11, 4(x10)",
		set(11, base+r.Intn(size/2)), "csrrw x0, 0x305, x11", set(11, base+r.Intn(size/2)), "csrrw x0, 0x105, x11",
		set(11, base+r.Intn(size/2)), "csrrw x0, 0x341, x11", set(11, base+r.Intn(size/2)), "csrrw x0, 0x141, x11",
	}
	for _, n := range []int{api.CsrMedeleg, api.CsrMideleg, api.CsrMie, api.CsrMip, api.CsrMcounteren, api.CsrScounteren} {
		lines = append(lines, set(11, int(r.Uint32()&r.Uint32())), fmt.Sprintf("csrrw x0, %d, x11", n))
	}
	for i := 1; i < 8; i++ {
		lines = append(lines, set(i, chanceNumber(r, size)))
	}
	// MIE is 0 till mret: no interrupt comes ahead of it.
	lines = append(lines, set(11, int(r.Uint32())&^(mie|mpp)|[]int{0, 1, 3}[r.Intn(3)]<<11), "csrrw x0, 0x300, x11", "mret")
	s := image(t, lines...)
	m := made(t, size)
	lay(t, m, 0, s)
	retire(t, m, len(s)/4)
	return m
}

// Harts by chance do what the model does, step by step (P8, P13, P14).
func TestModesByChance(t *testing.T) {
	r := rand.New(rand.NewSource(3))
	did := map[api.Did]int{}
	in := map[int]int{}
	for range 500 {
		m := chanceHart(t, r)
		for idle := 0; idle < 5; {
			if at := m.Pc() - base; at >= 0 && at <= m.Size()-4 {
				w := wordOf(t, chanceIns(r))
				if r.Intn(50) == 0 {
					w = four(0xffffffff)
				}
				lay(t, m, at, w)
			}
			in[m.Mode()]++
			d := follows(t, m)
			did[d]++
			// A hart that waits in vain, or goes where nothing lies, is left.
			if d.Kind == api.Idle || d.Cause == 1 && d.Kind == api.Exception || r.Intn(50) == 0 {
				idle++
			}
			switch r.Intn(10) {
			case 0:
				m.Tick(r.Intn(10))
			case 1:
				m.Feed("ab"[:r.Intn(3)])
			case 2:
				m.Tick(1 << 31)
			}
		}
		sound(t, m)
	}
	// All that can be done was done often enough to mean something.
	for _, d := range []api.Did{{Kind: api.Retired}, {Kind: api.Idle}, {Kind: api.Exception, Cause: 1}, {Kind: api.Exception, Cause: 2}, {Kind: api.Exception, Cause: 3}, {Kind: api.Exception, Cause: 8}, {Kind: api.Exception, Cause: 9}, {Kind: api.Exception, Cause: 11}, {Kind: api.Interrupt, Cause: 1}, {Kind: api.Interrupt, Cause: 3}, {Kind: api.Interrupt, Cause: 5}, {Kind: api.Interrupt, Cause: 7}, {Kind: api.Interrupt, Cause: 9}, {Kind: api.Interrupt, Cause: 11}} {
		if did[d] < 20 {
			t.Errorf("%v was met %d times", d, did[d])
		}
	}
	for _, mode := range modes() {
		if in[mode] < 1000 {
			t.Errorf("%d steps in mode %d", in[mode], mode)
		}
	}
}
