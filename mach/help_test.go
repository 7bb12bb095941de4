package mach_test

import (
	"encoding/binary"
	"fmt"
	"strings"
	"testing"

	"machine/api"
	"machine/asm"
	"machine/mach"
)

const base = api.RamBase

// made tells a machine with so many bytes of RAM.
func made(t *testing.T, size int) *mach.Machine {
	t.Helper()
	m, e := mach.New(size)
	if e != api.OK || m == nil {
		t.Fatalf("New(%d): %v, %v", size, m, e)
	}
	return m
}

// image tells the bytes of lines.
func image(t *testing.T, lines ...string) string {
	t.Helper()
	text := strings.Join(lines, "\n")
	s, e, at := asm.Assemble(text)
	if e != api.OK {
		t.Fatalf("Assemble: %v in line %d of\n%s", e, at, text)
	}
	return s
}

// lay lays an image at a place of RAM.
func lay(t *testing.T, m *mach.Machine, off int, s string) {
	t.Helper()
	if e := m.Load(off, s); e != api.OK {
		t.Fatalf("Load(%d, %d bytes): %v", off, len(s), e)
	}
}

// booted tells a machine with lines at RAM's beginning.
func booted(t *testing.T, size int, lines ...string) *mach.Machine {
	t.Helper()
	m := made(t, size)
	lay(t, m, 0, image(t, lines...))
	return m
}

// set tells the two lines that bring a number into a register.
func set(r int, v int) string {
	low := int(int32(v<<20)) >> 20
	high := int(int32(v-low)) >> 12
	return fmt.Sprintf("lui x%d, %d\naddi x%d, x%d, %d", r, high, r, r, low)
}

// retire does steps, all of which must be retired.
func retire(t *testing.T, m *mach.Machine, n int) {
	t.Helper()
	for k := range n {
		at := m.Pc()
		if d := m.Step(); d != (api.Did{Kind: api.Retired}) {
			t.Fatalf("step %d, at %#x: %v", k+1, at, d)
		}
	}
}

// meets does a step that must meet an exception, which is taken to mode M with that tval.
func meets(t *testing.T, m *mach.Machine, cause int, tval int) {
	t.Helper()
	at := m.Pc()
	if d := m.Step(); d != (api.Did{Kind: api.Exception, Cause: cause}) {
		t.Fatalf("step at %#x: %v, want the exception %d", at, d, cause)
	}
	wantCsr(t, m, api.CsrMcause, cause)
	wantCsr(t, m, api.CsrMtval, tval)
	wantCsr(t, m, api.CsrMepc, at)
}

func reg(t *testing.T, m *mach.Machine, i int) int {
	t.Helper()
	v, e := m.Reg(i)
	if e != api.OK {
		t.Fatalf("Reg(%d): %v", i, e)
	}
	return v
}

func wantReg(t *testing.T, m *mach.Machine, i int, want int) {
	t.Helper()
	if got := reg(t, m, i); got != want {
		t.Errorf("x%d is %#x, want %#x", i, got, want)
	}
}

func wantPc(t *testing.T, m *mach.Machine, want int) {
	t.Helper()
	if got := m.Pc(); got != want {
		t.Errorf("pc is %#x, want %#x", got, want)
	}
}

func wantCsr(t *testing.T, m *mach.Machine, n int, want int) {
	t.Helper()
	if got, e := m.Csr(n); got != want || e != api.OK {
		t.Errorf("Csr(%#x): %#x, %v, want %#x", n, got, e, want)
	}
}

func peek(t *testing.T, m *mach.Machine, off int, n int) string {
	t.Helper()
	s, e := m.Peek(off, n)
	if e != api.OK || len(s) != n {
		t.Fatalf("Peek(%d, %d): %d bytes, %v", off, n, len(s), e)
	}
	return s
}

func wantRam(t *testing.T, m *mach.Machine, off int, want string) {
	t.Helper()
	if got := peek(t, m, off, len(want)); got != want {
		t.Errorf("RAM has % x from %#x on, want % x", got, off, want)
	}
}

// whole tells all that looks tell of a machine.
func whole(t *testing.T, m *mach.Machine) string {
	t.Helper()
	s := m.Show() + peek(t, m, 0, m.Size())
	for n := range 0x1000 {
		if v, e := m.Csr(n); v != 0 || e != api.OK && isCsr(n) {
			s += fmt.Sprintf(" %x:%x,%d", n, v, e)
		}
	}
	for i := range 32 {
		s += fmt.Sprintf(" x%d:%x", i, reg(t, m, i))
	}
	return s + fmt.Sprintf(" %x %d %d", m.Pc(), m.Mode(), m.Size())
}

// four tells the bytes of words of 32 bits.
func four(vs ...int) string {
	var b []byte
	for _, v := range vs {
		b = binary.LittleEndian.AppendUint32(b, uint32(v))
	}
	return string(b)
}

// reservation tells what Show says of the reserved word: its letter and its address.
func reservation(m *mach.Machine) (byte, int) {
	s := m.Show()
	return s[133], int(binary.LittleEndian.Uint32([]byte(s[134:138]))) + int(s[138])<<32
}

func wantReserved(t *testing.T, m *mach.Machine, address int) {
	t.Helper()
	if c, at := reservation(m); c != 'r' || at != address {
		t.Errorf("reserved: %c %#x, want r %#x", c, at, address)
	}
}

func wantUnreserved(t *testing.T, m *mach.Machine) {
	t.Helper()
	if c, at := reservation(m); c != '-' || at != 0 {
		t.Errorf("reserved: %c %#x, want nothing", c, at)
	}
}

// edges are numbers at which words of 32 bits turn, and some between.
func edges() []int {
	return []int{
		0, 1, 2, 3, 5, 7, 31, 32, 33, 0x7f, 0x80, 0xff, 0x100, 0x7fff, 0x8000, 0xffff, 0x10000, 0x12345678,
		0x7ffffffe, 0x7fffffff, 0x80000000, 0x80000001, 0x89abcdef, 0xfffeffff, 0xffff0000, 0xffff8000, 0xfffffffb, 0xfffffffe, 0xffffffff,
	}
}

const (
	busyAt    = 0x200 // the place of the word that busy reserves
	busySteps = 28    // the steps that it retires
)

// busy tells a machine that has been through much: every part that Show tells of and that can be moved without CSR instructions has been.
func busy(t *testing.T, size int) *mach.Machine {
	t.Helper()
	m := booted(t, size,
		set(1, base+busyAt), set(2, api.TimerBase), set(3, api.TimerBase+0x4000), set(4, api.TimerBase+0xbff8), set(5, api.PortBase),
		"addi x6, x0, 1", "sw x6, 0(x2)",
		set(7, 0x11223344), "sw x7, 0(x3)", "sw x6, 4(x3)",
		set(8, 0x55667788), "sw x8, 0(x4)", "sw x7, 4(x4)",
		"addi x9, x0, 7", "sb x9, 1(x5)", "addi x10, x0, 0x5a", "sb x10, 7(x5)", "sb x10, 0(x5)", "sb x9, 0(x5)",
		"lr.w x11, x1, 0",
		"addi x31, x0, -1",
		"ebreak",
	)
	retire(t, m, busySteps)
	meets(t, m, 3, m.Pc())
	if n, e := m.Feed("abcdef"); n != 4 || e != api.OK {
		t.Fatalf("Feed: %d, %v", n, e)
	}
	return m
}
