package mach_test

import (
	"math"
	"strings"
	"testing"

	"machine/api"
)

// fresh tells what Show says of a machine that has just begun.
func fresh() string {
	return four(base) + strings.Repeat("\x00", 128) + "--" + "\x00\x00\x00\x00\x00" + "\x03" +
		strings.Repeat("\x00", 23*4) + "\x00" + four(0, 0) + four(1<<32-1, 1<<32-1) + "\x00\x00" + "." + "\x00" + "\x00"
}

func TestShowTellsAll(t *testing.T) {
	m := busy(t, 4096)
	if e := m.Tick(1 << 31); e != api.OK {
		t.Fatal(e)
	}
	want := four(0)
	for i := range 32 {
		want += four(reg(t, m, i))
	}
	want += "-r" + four(base+busyAt) + "\x00" + "\x03"
	want += four(0x1800, 0, 0, 0, 0)                            // mstatus, medeleg, mideleg, mie, mip
	want += four(0, 0, 0)                                       // mtvec, mcounteren, mcountinhibit
	want += four(0, base+4*busySteps, 3, base+4*busySteps)      // mscratch, mepc, mcause, mtval
	want += four(0, 0) + four(0, 0, 0, 0) + four(0)             // stvec, scounteren; sscratch, sepc, scause, stval; satp
	want += four(busySteps+1, 0) + four(busySteps, 0)           // mcycle, minstret
	want += "\x01" + four(0xd5667788, 0x11223344)               // msip, mtime
	want += four(0x11223344, 1)                                 // mtimecmp
	want += "\x07\x5a" + "!" + "\x04abcd" + "\x02" + "\x5a\x07" // the port
	if got := m.Show(); got != want {
		t.Errorf("Show:\n% x, want\n% x", got, want)
	}
	// A byte that goes, and what was lost being forgotten, are told as well.
	lay(t, m, 0, image(t, set(1, api.PortBase), "lbu x2, 0(x1)", "lbu x3, 5(x1)"))
	m.Drain()
	m.Reset()
	m.Feed("wxyz!")
	retire(t, m, 4)
	if got := m.Show(); !strings.HasSuffix(got, "\x00\x00.\x03xyz\x00") {
		t.Errorf("Show: % x", got)
	}
}

func TestShowHasEveryRegisterAtItsPlace(t *testing.T) {
	var lines []string
	for i := range 32 {
		lines = append(lines, set(i, 0x01020304*i+0x80))
	}
	m := booted(t, 4096, lines...)
	retire(t, m, 64)
	want := four(base+256) + four(0)
	for i := 1; i < 32; i++ {
		want += four(0x01020304*i + 0x80)
		wantReg(t, m, i, 0x01020304*i+0x80)
	}
	if got := m.Show()[:132]; got != want {
		t.Errorf("Show:\n% x, want\n% x", got, want)
	}
	wantReg(t, m, 0, 0)
}

func TestRegRefuses(t *testing.T) {
	m := busy(t, 1024)
	wantReg(t, m, 31, 0xffffffff)
	for _, i := range []int{-1, 32, 33, 64, math.MinInt, math.MaxInt} {
		if v, e := m.Reg(i); v != 0 || e != api.ErrArg {
			t.Errorf("Reg(%d): %d, %v", i, v, e)
		}
	}
}

func TestPeek(t *testing.T) {
	m := made(t, 16)
	lay(t, m, 0, "0123456789abcde\xff")
	for _, c := range []struct {
		off, n int
		want   string
	}{
		{0, 0, ""}, {0, 1, "0"}, {3, 4, "3456"}, {0, 16, "0123456789abcde\xff"}, {15, 1, "\xff"}, {16, 0, ""},
	} {
		if s, e := m.Peek(c.off, c.n); s != c.want || e != api.OK {
			t.Errorf("Peek(%d, %d): %q, %v", c.off, c.n, s, e)
		}
	}
	for _, c := range [][2]int{
		{0, -1}, {5, -1}, {16, -1}, {0, math.MinInt}, {-1, 1}, {-1, 2}, {-5, 16}, {0, 17}, {1, 16}, {15, 2}, {16, 1}, {17, 1},
		{math.MaxInt, 1}, {1, math.MaxInt}, {math.MaxInt, math.MaxInt}, {math.MinInt, 1}, {math.MinInt, math.MaxInt}, {math.MinInt, math.MinInt},
	} {
		if s, e := m.Peek(c[0], c[1]); s != "" || e != api.ErrArg {
			t.Errorf("Peek(%d, %d): %q, %v", c[0], c[1], s, e)
		}
	}
}

// isCsr tells whether the document names a CSR of that number.
func isCsr(n int) bool {
	for _, r := range [][2]int{
		{0x100, 0x100}, {0x104, 0x106}, {0x140, 0x144}, {0x180, 0x180},
		{0x300, 0x306}, {0x320, 0x320}, {0x323, 0x33f}, {0x340, 0x344},
		{0xb00, 0xb00}, {0xb02, 0xb1f}, {0xb80, 0xb80}, {0xb82, 0xb9f},
		{0xc00, 0xc1f}, {0xc80, 0xc9f}, {0xf11, 0xf14},
	} {
		if n >= r[0] && n <= r[1] {
			return true
		}
	}
	return false
}

func TestCsrOfANewMachine(t *testing.T) {
	m := made(t, 64)
	for n := -5; n < 0x2000; n++ {
		want, answer := 0, api.OK
		if n == api.CsrMisa {
			want = 0x40141105
		}
		if !isCsr(n) {
			answer = api.ErrArg
		}
		if v, e := m.Csr(n); v != want || e != answer {
			t.Errorf("Csr(%#x): %#x, %v, want %#x, %v", n, v, e, want, answer)
		}
	}
	for _, n := range []int{math.MinInt, math.MaxInt, 1<<32 + api.CsrMisa, -api.CsrMisa} {
		if v, e := m.Csr(n); v != 0 || e != api.ErrArg {
			t.Errorf("Csr(%d): %#x, %v", n, v, e)
		}
	}
}

func TestCsrTellsWhatAStepLeft(t *testing.T) {
	m := busy(t, 4096)
	for n, want := range map[int]int{
		api.CsrMstatus: 0x1800, api.CsrSstatus: 0, api.CsrMepc: base + 4*busySteps, api.CsrMcause: 3, api.CsrMtval: base + 4*busySteps,
		api.CsrSepc: 0, api.CsrScause: 0, api.CsrStval: 0,
		api.CsrMcycle: busySteps + 1, api.CsrCycle: busySteps + 1, api.CsrMinstret: busySteps, api.CsrInstret: busySteps,
		api.CsrMcycleh: 0, api.CsrCycleh: 0, api.CsrMinstreth: 0, api.CsrInstreth: 0,
		api.CsrTime: 0x55667788, api.CsrTimeh: 0x11223344,
		// msip is 1, mtime is above mtimecmp, and the port's +2 reads 6.
		api.CsrMip: 1<<3 | 1<<7 | 1<<9 | 1<<11, api.CsrSip: 0, api.CsrMie: 0, api.CsrSie: 0,
		api.CsrMisa: 0x40141105, 0xb03: 0, 0xb83: 0, 0xc03: 0, 0xc83: 0, 0x323: 0,
	} {
		wantCsr(t, m, n, want)
	}
}

func TestLooksChangeNothing(t *testing.T) {
	m := busy(t, 4096)
	before := whole(t, m)
	for range 3 {
		if whole(t, m) != before {
			t.Fatalf("a look changes something")
		}
	}
	for _, n := range []int{-1, 32, 1 << 40} {
		m.Reg(n)
		m.Csr(n)
		m.Peek(n, n)
		m.Peek(0, n)
	}
	if whole(t, m) != before {
		t.Errorf("a look that is refused changes something")
	}
}
