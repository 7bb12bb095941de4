package mach_test

import (
	"math"
	"strings"
	"testing"

	"machine/api"
	"machine/mach"
)

func TestNewRefusesSizes(t *testing.T) {
	for _, size := range []int{-1, math.MinInt, api.MaxRam + 1, math.MaxInt} {
		if m, e := mach.New(size); m != nil || e != api.ErrArg {
			t.Errorf("New(%d): %v, %v", size, m, e)
		}
	}
}

func TestNewIsAsResetLeavesIt(t *testing.T) {
	for _, size := range []int{0, 1, 2, 3, 4, 64, 4095, 4096, 4097, api.MaxRam - 1, api.MaxRam} {
		m := made(t, size)
		if m.Size() != size || m.Pc() != base || m.Mode() != api.Mach {
			t.Errorf("New(%d): size %d, pc %#x, mode %d", size, m.Size(), m.Pc(), m.Mode())
		}
		for i := range 32 {
			wantReg(t, m, i, 0)
		}
		wantRam(t, m, 0, strings.Repeat("\x00", size))
		if got := m.Show(); got != fresh() {
			t.Errorf("New(%d): Show % x", size, got)
		}
		before := whole(t, m)
		m.Reset()
		if whole(t, m) != before {
			t.Errorf("New(%d): Reset changes it", size)
		}
	}
}

func TestResetLeavesRamAlone(t *testing.T) {
	m := busy(t, 4096)
	ram := peek(t, m, 0, 4096)
	m.Reset()
	wantRam(t, m, 0, ram)
	n := made(t, 4096)
	lay(t, n, 0, ram)
	if whole(t, m) != whole(t, n) {
		t.Errorf("a machine that was reset differs from a new one with its RAM: % x", m.Show())
	}
	// And it goes on as a new one does.
	for k := range busySteps + 1 {
		if a, b := m.Step(), n.Step(); a != b {
			t.Fatalf("step %d: %v, of a new one %v", k+1, a, b)
		}
	}
	if whole(t, m) != whole(t, n) {
		t.Errorf("a machine that was reset goes on otherwise than a new one")
	}
}

func TestLoadRefuses(t *testing.T) {
	long := strings.Repeat("x", api.MaxRam+1)
	for _, c := range []struct {
		size, off int
		image     string
		want      api.Errno
	}{
		{64, 0, long, api.ErrLong},
		{64, -1, long, api.ErrLong},
		{api.MaxRam, math.MaxInt, long, api.ErrLong},
		{api.MaxRam, 0, long[1:], api.OK},
		{api.MaxRam - 1, 0, long[1:], api.ErrArg},
		{64, -1, "", api.ErrArg},
		{64, -1, "ab", api.ErrArg},
		{64, math.MinInt, "ab", api.ErrArg},
		{64, 0, strings.Repeat("x", 64), api.OK},
		{64, 0, strings.Repeat("x", 65), api.ErrArg},
		{64, 1, strings.Repeat("x", 64), api.ErrArg},
		{64, 63, "x", api.OK},
		{64, 63, "xy", api.ErrArg},
		{64, 64, "x", api.ErrArg},
		{64, 64, "", api.OK},
		{64, 65, "", api.ErrArg},
		{64, math.MaxInt, "", api.ErrArg},
		{64, math.MaxInt, "x", api.ErrArg},
		{0, 0, "", api.OK},
		{0, 0, "x", api.ErrArg},
		{0, 1, "", api.ErrArg},
	} {
		m := made(t, c.size)
		lay(t, m, 0, strings.Repeat("\x13", c.size))
		before := whole(t, m)
		if e := m.Load(c.off, c.image); e != c.want {
			t.Errorf("RAM of %d: Load(%d, %d bytes): %v, want %v", c.size, c.off, len(c.image), e, c.want)
		}
		if c.want != api.OK && whole(t, m) != before {
			t.Errorf("RAM of %d: Load(%d, %d bytes) changes something", c.size, c.off, len(c.image))
		}
	}
}

func TestLoadLaysBytes(t *testing.T) {
	m := made(t, 16)
	lay(t, m, 0, "0123456789abcdef")
	lay(t, m, 3, "\x00\xff\x80")
	wantRam(t, m, 0, "012\x00\xff\x806789abcdef")
	lay(t, m, 14, "yz")
	wantRam(t, m, 0, "012\x00\xff\x806789abcdyz")
	lay(t, m, 7, "")
	wantRam(t, m, 0, "012\x00\xff\x806789abcdyz")
	if m.Show() != fresh() {
		t.Errorf("Load changes more than RAM: % x", m.Show())
	}
}

func TestLoadEndsAReservation(t *testing.T) {
	first := busy(t, 1024)
	wantReserved(t, first, base+busyAt)
	for off := busyAt - 7; off <= busyAt+7; off++ {
		for n := range 9 {
			m := first.Copy()
			// The same bytes anew are written as well.
			lay(t, m, off, peek(t, m, off, n))
			want := byte('r')
			if n > 0 && off < busyAt+4 && off+n > busyAt {
				want = '-'
			}
			if got, _ := reservation(m); got != want {
				t.Errorf("Load of %d bytes at %d from the reserved word: %c, want %c", n, off-busyAt, got, want)
			}
		}
	}
	m := first.Copy()
	if e := m.Load(busyAt, strings.Repeat("x", 1024)); e != api.ErrArg {
		t.Errorf("Load: %v", e)
	}
	wantReserved(t, m, base+busyAt)
	// The image lies around the whole word.
	lay(t, m, 0, strings.Repeat("x", 1024))
	wantUnreserved(t, m)
}

func TestCopyIsInTheSameState(t *testing.T) {
	m := busy(t, 4096)
	before := whole(t, m)
	c := m.Copy()
	if c == nil || c == m {
		t.Fatalf("Copy: %p of %p", c, m)
	}
	if whole(t, c) != before || whole(t, m) != before {
		t.Errorf("a copy differs from what it was made of")
	}
	for k := range 3 {
		if a, b := m.Step(), c.Step(); a != b {
			t.Errorf("step %d: %v, of the copy %v", k+1, a, b)
		}
	}
	if whole(t, m) != whole(t, c) {
		t.Errorf("a copy goes on otherwise")
	}
}

// stir changes all of a machine that calls can change.
func stir(t *testing.T, m *mach.Machine) {
	t.Helper()
	m.Reset()
	lay(t, m, 0, image(t,
		set(1, base+0x300), set(2, api.TimerBase), set(3, api.PortBase), "addi x4, x0, 1",
		"sw x4, 0x300(x1)", "sw x4, 0(x2)", "sb x4, 0(x3)", "sb x4, 1(x3)", "sb x4, 7(x3)", "lr.w x5, x1, 0"))
	retire(t, m, 13)
	if e := m.Tick(77); e != api.OK {
		t.Fatal(e)
	}
	if _, e := m.Feed("123456789"); e != api.OK {
		t.Fatal(e)
	}
}

func TestNeitherCopySeesTheOther(t *testing.T) {
	m := busy(t, 4096)
	before := whole(t, m)
	c := m.Copy()
	d := c.Copy()
	stir(t, c)
	if whole(t, m) != before || whole(t, d) != before {
		t.Errorf("what a copy does is seen by another machine")
	}
	stirred := whole(t, c)
	m.Drain()
	if whole(t, c) != stirred || whole(t, d) != before {
		t.Errorf("what a machine does is seen by its copy")
	}
	stir(t, m)
	if whole(t, d) != before {
		t.Errorf("what a machine does is seen by its copy")
	}
	if whole(t, m) != stirred {
		t.Errorf("two machines that did the same differ")
	}
}

func TestFlushChangesNothing(t *testing.T) {
	m := busy(t, 4096)
	before := whole(t, m)
	m.Flush()
	if whole(t, m) != before {
		t.Errorf("Flush changes something")
	}
	text := []string{"addi x1, x0, 100", "loop: c.addi x2, x2, 3", "add x3, x3, x2", "sw x3, 0x300(x4)", "addi x1, x1, -1", "bne x1, x0, loop", "ebreak"}
	a := booted(t, 2048, append([]string{set(4, base)}, text...)...)
	b := a.Copy()
	for range 550 {
		da := a.Step()
		b.Flush()
		db := b.Step()
		b.Flush()
		if da != db {
			t.Fatalf("%v, with Flush between %v", da, db)
		}
	}
	if whole(t, a) != whole(t, b) {
		t.Errorf("a machine that is flushed goes on otherwise")
	}
}

func TestMachinesKnowNothingOfEachOther(t *testing.T) {
	a := made(t, 4096)
	before := whole(t, a)
	b := made(t, 4096)
	stir(t, b)
	if whole(t, a) != before {
		t.Errorf("what a machine does is seen by another")
	}
}

// crowded tells a machine in mode S that waits, has a word reserved, and none of whose CSRs that can be written is 0.
func crowded(t *testing.T) *mach.Machine {
	t.Helper()
	m := entered(t, api.Super, []put{
		{api.CsrMedeleg, 0xb3ff}, {api.CsrMideleg, 0x220}, {api.CsrMie, stime}, {api.CsrMip, ssoft | sext}, {api.CsrMtvec, base + 0x101}, {api.CsrMcounteren, 3}, {api.CsrMcountinhibit, 4},
		{api.CsrMscratch, 11}, {api.CsrMcause, 12}, {api.CsrMtval, 13}, {api.CsrStvec, base + 0x201}, {api.CsrScounteren, 5},
		{api.CsrSscratch, 14}, {api.CsrSepc, base + 0x300}, {api.CsrScause, 15}, {api.CsrStval, 16}, {api.CsrSatp, 0x12345},
		{api.CsrMcycleh, 17}, {api.CsrMinstreth, 18}, {api.CsrMinstret, 19}, {api.CsrMstatus, tsr | tvm | 0xc0122},
	},
		set(1, base+0x700), set(2, api.TimerBase), set(3, api.PortBase), set(4, api.TimerBase+0x4000), "sw x1, 4(x4)",
		"addi x5, x0, 1", "sw x5, 0(x2)", "sb x5, 7(x3)", "sb x5, 1(x3)", "sb x5, 0(x3)", "lr.w x6, x1, 0", "wfi")
	retire(t, m, 16)
	m.Tick(99)
	for _, n := range shownCsrs() {
		if shownCsr(t, m, n) == 0 {
			t.Fatalf("%#x is 0", n)
		}
	}
	wantWaits(t, m, true)
	wantReserved(t, m, base+0x700)
	wantMode(t, m, api.Super)
	return m
}

func TestResetOfEveryCsr(t *testing.T) {
	m := crowded(t)
	ram := peek(t, m, 0, 4096)
	m.Reset()
	if m.Show() != fresh() {
		t.Errorf("Reset: % x", m.Show())
	}
	wantRam(t, m, 0, ram)
	n := made(t, 4096)
	lay(t, n, 0, ram)
	if whole(t, m) != whole(t, n) {
		t.Errorf("a machine that was reset differs from a new one with its RAM")
	}
}

func TestCopyOfEveryCsr(t *testing.T) {
	m := crowded(t)
	before := whole(t, m)
	c := m.Copy()
	if whole(t, c) != before {
		t.Errorf("a copy differs from what it was made of")
	}
	stir(t, c)
	if whole(t, m) != before {
		t.Errorf("what a copy does is seen by another machine")
	}
	m.Flush()
	if whole(t, m) != before {
		t.Errorf("Flush changes something")
	}
}

// Show tells each CSR at its place.
func TestShowOfEveryCsr(t *testing.T) {
	m := crowded(t)
	for _, n := range shownCsrs() {
		want, e := m.Csr(n)
		if n == api.CsrMip {
			want = ssoft | sext // without the lines
		}
		if got := shownCsr(t, m, n); got != want || e != api.OK {
			t.Errorf("Show tells %#x as %#x, want %#x", n, got, want)
		}
	}
	s := m.Show()
	if got := s[waitsAt : csrsAt+4]; got != "wr"+four(base+0x700)+"\x00"+"\x01"+four(tsr|tvm|0xc0122|mpie) {
		t.Errorf("Show: % x", got)
	}
}
