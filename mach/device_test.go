package mach_test

import (
	"math"
	"strings"
	"testing"

	"machine/api"
	"machine/mach"
)

// does carries out lines at place 64, where pc stands and comes back to; all of them must be retired.
func does(t *testing.T, m *mach.Machine, lines ...string) {
	t.Helper()
	s := image(t, lines...)
	back := image(t, "jalr x0, 0(x30)")
	lay(t, m, 64, s+back)
	retire(t, m, len(s)/4+1)
}

// looped tells a machine that stands at place 64, with x1 the timer block, x2 the port, x30 that place.
func looped(t *testing.T) *mach.Machine {
	t.Helper()
	m := booted(t, 1024, set(1, api.TimerBase), set(2, api.PortBase), set(30, base+64), "jalr x0, 0(x30)")
	retire(t, m, 7)
	return m
}

func TestTick(t *testing.T) {
	m := made(t, 64)
	before := whole(t, m)
	for _, n := range []int{-1, api.MaxTick + 1, math.MinInt, math.MaxInt} {
		if e := m.Tick(n); e != api.ErrArg {
			t.Errorf("Tick(%d): %v", n, e)
		}
	}
	if e := m.Tick(0); e != api.OK {
		t.Errorf("Tick(0): %v", e)
	}
	if whole(t, m) != before {
		t.Errorf("a Tick of nothing changes something")
	}
	low, high := 0, 0
	for _, n := range []int{1, 5, api.MaxTick, 7, api.MaxTick, api.MaxTick, 1 << 31, 1 << 31} {
		if e := m.Tick(n); e != api.OK {
			t.Errorf("Tick(%d): %v", n, e)
		}
		low += n
		high += low >> 32
		low &= 1<<32 - 1
		wantCsr(t, m, api.CsrTime, low)
		wantCsr(t, m, api.CsrTimeh, high)
	}
	if d := m.Step(); d.Kind != api.Exception {
		t.Fatal(d)
	}
	// Steps let no time go on.
	wantCsr(t, m, api.CsrTime, low)
}

func TestTimerWords(t *testing.T) {
	m := looped(t)
	does(t, m, "addi x5, x0, -1", "sw x5, 0(x1)", "lw x6, 0(x1)", set(7, api.TimerBase+0x4000), "lw x8, 0(x7)", "lw x9, 4(x7)")
	wantReg(t, m, 6, 1)
	wantReg(t, m, 8, 1<<32-1)
	wantReg(t, m, 9, 1<<32-1)
	wantCsr(t, m, api.CsrMip, 1<<3)
	does(t, m, "addi x5, x0, -2", "sw x5, 0(x1)", "lw x6, 0(x1)", set(11, 0x12345678), "sw x11, 0(x7)", "lw x8, 0(x7)", "lw x9, 4(x7)", "addi x5, x0, 77", "sw x5, 4(x7)", "lw x10, 4(x7)")
	wantReg(t, m, 6, 0)
	wantReg(t, m, 8, 0x12345678)
	wantReg(t, m, 9, 1<<32-1)
	wantReg(t, m, 10, 77)
	wantCsr(t, m, api.CsrMip, 0)
	does(t, m, set(12, api.TimerBase+0xbff8), "lw x13, 0(x12)", "lw x14, 4(x12)", "sw x11, 4(x12)", "addi x5, x0, -3", "sw x5, 0(x12)", "lw x15, 0(x12)", "lw x16, 4(x12)")
	wantReg(t, m, 13, 0)
	wantReg(t, m, 14, 0)
	wantReg(t, m, 15, 1<<32-3)
	wantReg(t, m, 16, 0x12345678)
	wantCsr(t, m, api.CsrTime, 1<<32-3)
	wantCsr(t, m, api.CsrTimeh, 0x12345678)
	m.Tick(3)
	wantCsr(t, m, api.CsrTime, 0)
	wantCsr(t, m, api.CsrTimeh, 0x12345679)
	// Modulo 2^64.
	does(t, m, "addi x5, x0, -1", "sw x5, 0(x12)", "sw x5, 4(x12)")
	wantCsr(t, m, api.CsrTimeh, 1<<32-1)
	m.Tick(2)
	wantCsr(t, m, api.CsrTime, 1)
	wantCsr(t, m, api.CsrTimeh, 0)
}

func TestTheTimersLine(t *testing.T) {
	for _, c := range []struct {
		time, compare [2]int // low, high
		up            int
	}{
		{[2]int{0, 0}, [2]int{0, 0}, 1 << 7},
		{[2]int{4, 0}, [2]int{5, 0}, 0},
		{[2]int{5, 0}, [2]int{5, 0}, 1 << 7},
		{[2]int{6, 0}, [2]int{5, 0}, 1 << 7},
		{[2]int{0, 1}, [2]int{5, 0}, 1 << 7},
		{[2]int{9, 0}, [2]int{5, 1}, 0},
		{[2]int{5, 1}, [2]int{9, 1}, 0},
		{[2]int{9, 1}, [2]int{9, 1}, 1 << 7},
		{[2]int{0, 1 << 31}, [2]int{0, 1}, 1 << 7},
		{[2]int{0, 1}, [2]int{0, 1 << 31}, 0},
		{[2]int{1 << 31, 0}, [2]int{1, 0}, 1 << 7},
		{[2]int{1<<32 - 2, 1<<32 - 1}, [2]int{1<<32 - 1, 1<<32 - 1}, 0},
		{[2]int{1<<32 - 1, 1<<32 - 1}, [2]int{1<<32 - 1, 1<<32 - 1}, 1 << 7},
	} {
		m := looped(t)
		does(t, m, set(7, api.TimerBase+0x4000), set(12, api.TimerBase+0xbff8),
			set(5, c.time[0]), "sw x5, 0(x12)", set(5, c.time[1]), "sw x5, 4(x12)",
			set(5, c.compare[0]), "sw x5, 0(x7)", set(5, c.compare[1]), "sw x5, 4(x7)")
		if v, _ := m.Csr(api.CsrMip); v != c.up {
			t.Errorf("mtime %d, mtimecmp %d: mip %#x, want %#x", c.time, c.compare, v, c.up)
		}
	}
}

func TestFeed(t *testing.T) {
	m := made(t, 64)
	before := whole(t, m)
	if n, e := m.Feed(strings.Repeat("x", api.MaxFeed+1)); n != 0 || e != api.ErrLong {
		t.Errorf("Feed: %d, %v", n, e)
	}
	if n, e := m.Feed(strings.Repeat("x", 1<<20)); n != 0 || e != api.ErrLong {
		t.Errorf("Feed: %d, %v", n, e)
	}
	if n, e := m.Feed(""); n != 0 || e != api.OK {
		t.Errorf("Feed: %d, %v", n, e)
	}
	if whole(t, m) != before {
		t.Errorf("a Feed of nothing changes something")
	}
	for _, c := range []struct {
		s     string
		n     int
		shown string
	}{
		{"\x00", 1, ".\x01\x00\x00"},
		{"\xff\x80", 2, ".\x03\x00\xff\x80\x00"},
		{"", 0, ".\x03\x00\xff\x80\x00"},
		{"a", 1, ".\x04\x00\xff\x80a\x00"},
		{"", 0, ".\x04\x00\xff\x80a\x00"},
		{"b", 0, "!\x04\x00\xff\x80a\x00"},
		{strings.Repeat("x", api.MaxFeed), 0, "!\x04\x00\xff\x80a\x00"},
	} {
		if n, e := m.Feed(c.s); n != c.n || e != api.OK {
			t.Errorf("Feed(%q): %d, %v, want %d", c.s, n, e, c.n)
		}
		if got := m.Show()[251:]; got != c.shown {
			t.Errorf("Feed(%q): Show % x, want % x", c.s, got, c.shown)
		}
	}
	m = made(t, 64)
	if n, e := m.Feed(strings.Repeat("x", api.MaxFeed)); n != api.MaxRx || e != api.OK {
		t.Errorf("Feed: %d, %v", n, e)
	}
}

func TestPortStatus(t *testing.T) {
	// Example 11.
	m := looped(t)
	if n, e := m.Feed("abcdef"); n != 4 || e != api.OK {
		t.Errorf("Feed: %d, %v", n, e)
	}
	does(t, m, "lbu x5, 5(x2)", "lb x6, 5(x2)")
	wantReg(t, m, 5, 0x63)
	wantReg(t, m, 6, 0x61)
	// The bytes go, the oldest first; behind them there is 0.
	does(t, m, "lbu x5, 0(x2)", "lbu x6, 0(x2)", "lbu x7, 0(x2)", "lbu x8, 5(x2)", "lbu x9, 0(x2)", "lbu x10, 5(x2)", "lbu x11, 0(x2)")
	for i, want := range []int{'a', 'b', 'c', 0x61, 'd', 0x60, 0} {
		wantReg(t, m, 5+i, want)
	}
	m.Feed("\xfe")
	does(t, m, "lb x5, 0(x2)")
	wantReg(t, m, 5, 0xfffffffe)
}

func TestPortSends(t *testing.T) {
	m := looped(t)
	if s := m.Drain(); s != "" {
		t.Errorf("Drain: %q", s)
	}
	does(t, m, "lbu x5, 5(x2)", "addi x6, x0, 0x141", "sb x6, 0(x2)", "lbu x7, 5(x2)")
	wantReg(t, m, 5, 0x60)
	wantReg(t, m, 7, 0x20)
	if s := m.Drain(); s != "A" {
		t.Errorf("Drain: %q", s)
	}
	if s := m.Drain(); s != "" {
		t.Errorf("Drain: %q", s)
	}
	var lines []string
	for range api.MaxTx {
		lines = append(lines, "addi x6, x6, 1", "sb x6, 0(x2)")
	}
	does(t, m, lines[:14]...)
	does(t, m, "lbu x5, 5(x2)")
	wantReg(t, m, 5, 0x20)
	does(t, m, "addi x6, x6, 1", "sb x6, 0(x2)", "lbu x5, 5(x2)", "addi x6, x6, 1", "sb x6, 0(x2)", "lbu x7, 5(x2)")
	wantReg(t, m, 5, 0)
	wantReg(t, m, 7, 0)
	if s := m.Drain(); s != "BCDEFGHI" {
		t.Errorf("Drain: %q", s)
	}
	does(t, m, "lbu x5, 5(x2)", "sb x0, 0(x2)", "addi x6, x0, 255", "sb x6, 0(x2)", "sb x6, 5(x2)", "sb x6, 2(x2)")
	wantReg(t, m, 5, 0x60)
	if s := m.Drain(); s != "\x00\xff" {
		t.Errorf("Drain: %q", s)
	}
}

func TestPortKeepsBytes(t *testing.T) {
	m := looped(t)
	does(t, m, "addi x5, x0, -1", "sb x5, 1(x2)", "lbu x6, 1(x2)", "sb x5, 7(x2)", "lbu x7, 7(x2)", "lb x8, 7(x2)")
	wantReg(t, m, 6, 7)
	wantReg(t, m, 7, 255)
	wantReg(t, m, 8, 1<<32-1)
	does(t, m, "addi x5, x0, 0x7a", "sb x5, 1(x2)", "lbu x6, 1(x2)", "sb x5, 7(x2)", "lbu x7, 7(x2)")
	wantReg(t, m, 6, 2)
	wantReg(t, m, 7, 0x7a)
}

func TestWhyThePortInterrupts(t *testing.T) {
	for enable := range 8 {
		for there := range 3 {
			for room := range 2 {
				m := looped(t)
				m.Feed([]string{"", "ab", "abcde"}[there])
				if room == 0 {
					does(t, m, "sb x0, 0(x2)", "sb x0, 0(x2)", "sb x0, 0(x2)", "sb x0, 0(x2)", "sb x0, 0(x2)", "sb x0, 0(x2)", "sb x0, 0(x2)", "sb x0, 0(x2)")
				}
				does(t, m, set(5, enable), "sb x5, 1(x2)", "lbu x6, 2(x2)", "lbu x7, 2(x2)")
				want := 1
				if enable&2 != 0 && room == 1 {
					want = 2
				}
				if enable&1 != 0 && there > 0 {
					want = 4
				}
				if enable&4 != 0 && there == 2 {
					want = 6
				}
				if reg(t, m, 6) != want || reg(t, m, 7) != want {
					t.Errorf("enable %d, there %d, room %d: +2 reads %d, %d, want %d", enable, there, room, reg(t, m, 6), reg(t, m, 7), want)
				}
				up := 0
				if want != 1 {
					up = 1<<11 | 1<<9
				}
				wantCsr(t, m, api.CsrMip, up)
			}
		}
	}
}

// Its lines go down with their cause.
func TestThePortsLineGoes(t *testing.T) {
	m := looped(t)
	does(t, m, "addi x5, x0, 5", "sb x5, 1(x2)")
	wantCsr(t, m, api.CsrMip, 0)
	m.Feed("abcde")
	wantCsr(t, m, api.CsrMip, 0xa00)
	does(t, m, "lbu x6, 0(x2)", "lbu x6, 0(x2)", "lbu x6, 0(x2)", "lbu x6, 0(x2)", "lbu x6, 2(x2)")
	wantReg(t, m, 6, 6)
	wantCsr(t, m, api.CsrMip, 0xa00)
	does(t, m, "lbu x6, 5(x2)")
	wantReg(t, m, 6, 0x62)
	wantCsr(t, m, api.CsrMip, 0)
	does(t, m, "addi x5, x0, 2", "sb x5, 1(x2)")
	wantCsr(t, m, api.CsrMip, 0xa00)
	does(t, m, "sb x0, 0(x2)", "sb x0, 0(x2)", "sb x0, 0(x2)", "sb x0, 0(x2)", "sb x0, 0(x2)", "sb x0, 0(x2)", "sb x0, 0(x2)")
	wantCsr(t, m, api.CsrMip, 0xa00)
	does(t, m, "sb x0, 0(x2)")
	wantCsr(t, m, api.CsrMip, 0)
	m.Drain()
	wantCsr(t, m, api.CsrMip, 0xa00)
}
