package mach_test

import (
	"encoding/binary"
	"testing"

	"machine/api"
	"machine/mach"
)

// put is a CSR and what is to be in it.
type put struct{ n, v int }

const (
	mie  = 1 << 3 // bits of mstatus
	sie  = 1 << 1
	spie = 1 << 5
	mpie = 1 << 7
	spp  = 1 << 8
	mpp  = 3 << 11
	mprv = 1 << 17
	tvm  = 1 << 20
	tw   = 1 << 21
	tsr  = 1 << 22

	ssoft, msoft, stime, mtime, sext, mext = 1 << 1, 1 << 3, 1 << 5, 1 << 7, 1 << 9, 1 << 11 // bits of mip
)

// csrw tells the words that lay a number into a CSR, by way of x31.
func csrw(t *testing.T, n int, v int) string {
	t.Helper()
	return setter(t, 31, v) + wordOf(t, api.Ins{Op: api.Csrrw, Rs1: 31, Imm: n, Len: 4})
}

// entered tells a machine of 4096 bytes that stands in a mode at RAM's beginning, where lines lie, with CSRs put in that order. mstatus is what its put says, but that behind the mret by which the mode is entered MPIE is 1 and MPP 0.
func entered(t *testing.T, mode int, puts []put, lines ...string) *mach.Machine {
	t.Helper()
	status, s := 0, ""
	for _, p := range puts {
		if p.n == api.CsrMstatus {
			status = p.v
			continue
		}
		s += csrw(t, p.n, p.v)
	}
	enable := status & mie << 4
	s += csrw(t, api.CsrMepc, base) + csrw(t, api.CsrMstatus, status&^(mie|mpie|mpp)|enable|mode<<11)
	s += setter(t, 31, 0) + wordOf(t, api.Ins{Op: api.Mret, Len: 4})
	m := booted(t, 4096, "jal x0, 2048")
	lay(t, m, 2048, s)
	retire(t, m, 1+len(s)/4)
	if m.Mode() != mode || m.Pc() != base {
		t.Fatalf("entered mode %d at %#x, want %d at %#x", m.Mode(), m.Pc(), mode, base)
	}
	lay(t, m, 0, image(t, lines...))
	return m
}

// modes are all of them.
func modes() []int { return []int{api.User, api.Super, api.Mach} }

// shownCsrs are those that Show tells, in its order; the first stands at csrsAt.
func shownCsrs() []int {
	return []int{
		api.CsrMstatus, api.CsrMedeleg, api.CsrMideleg, api.CsrMie, api.CsrMip, api.CsrMtvec, api.CsrMcounteren, api.CsrMcountinhibit,
		api.CsrMscratch, api.CsrMepc, api.CsrMcause, api.CsrMtval, api.CsrStvec, api.CsrScounteren,
		api.CsrSscratch, api.CsrSepc, api.CsrScause, api.CsrStval, api.CsrSatp, api.CsrMcycle, api.CsrMcycleh, api.CsrMinstret, api.CsrMinstreth,
	}
}

const (
	waitsAt    = 132 // the places of parts of what Show tells
	reservedAt = 133
	modeAt     = 139
	csrsAt     = 140
	devicesAt  = 232
)

// shownCsr tells what Show says of a CSR; of mip that is what was written of it.
func shownCsr(t *testing.T, m *mach.Machine, n int) int {
	t.Helper()
	s := m.Show()
	for k, c := range shownCsrs() {
		if c == n {
			return wordAt(s, csrsAt+4*k)
		}
	}
	t.Fatalf("Show does not tell the CSR %#x", n)
	return 0
}

// wordAt tells the word that lies at a place of a text.
func wordAt(s string, at int) int {
	return int(binary.LittleEndian.Uint32([]byte(s[at : at+4])))
}

func wantMode(t *testing.T, m *mach.Machine, want int) {
	t.Helper()
	if got := m.Mode(); got != want {
		t.Errorf("mode %d, want %d", got, want)
	}
}

// wantStep does a step that must do just that.
func wantStep(t *testing.T, m *mach.Machine, kind int, cause int) {
	t.Helper()
	at := m.Pc()
	if d := m.Step(); d != (api.Did{Kind: kind, Cause: cause}) {
		t.Fatalf("step at %#x in mode %d: %v, want {%d %d}", at, m.Mode(), d, kind, cause)
	}
}

// refused does a step of a word that may not be: the exception 2, which changes nothing but what the trap to mode M changes.
func refused(t *testing.T, m *mach.Machine) {
	t.Helper()
	before := m.Show()
	s, e := m.Peek(m.Pc()-base, 4)
	if e != api.OK {
		t.Fatalf("no word at %#x", m.Pc())
	}
	meets(t, m, 2, wordAt(s, 0))
	after := m.Show()
	if before[4:modeAt] != after[4:modeAt] || before[devicesAt:] != after[devicesAt:] {
		t.Errorf("a word that is refused changes something")
	}
	for k, n := range shownCsrs() {
		switch n {
		case api.CsrMstatus, api.CsrMepc, api.CsrMcause, api.CsrMtval, api.CsrMcycle, api.CsrMcycleh:
			continue
		}
		if at := csrsAt + 4*k; wordAt(before, at) != wordAt(after, at) {
			t.Errorf("a word that is refused changes the CSR %#x", n)
		}
	}
}
