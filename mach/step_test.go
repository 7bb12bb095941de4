package mach_test

import (
	"math"
	"testing"

	"machine/api"
)

func TestStepRetires(t *testing.T) {
	// Example 6.
	m := booted(t, 64, "addi x1, x0, -5")
	if d := m.Step(); d != (api.Did{Kind: api.Retired, Cause: 0}) {
		t.Errorf("Step: %v", d)
	}
	wantReg(t, m, 1, 4294967291)
	wantPc(t, m, 2147483652)
}

func TestStepMeetsAnException(t *testing.T) {
	// Example 7.
	m := made(t, 64)
	if d := m.Step(); d != (api.Did{Kind: api.Exception, Cause: 2}) {
		t.Errorf("Step: %v", d)
	}
	wantCsr(t, m, api.CsrMcause, 2)
	wantCsr(t, m, api.CsrMtval, 0)
	wantCsr(t, m, api.CsrMepc, base)
	wantCsr(t, m, api.CsrMstatus, 0x1800)
	wantPc(t, m, 0)
	if m.Mode() != api.Mach {
		t.Errorf("mode %d", m.Mode())
	}
	meets(t, m, 1, 0)
	meets(t, m, 1, 0)
}

func TestWordsThatMeanNothing(t *testing.T) {
	for _, c := range []struct {
		image string
		tval  int
	}{
		{four(0xffffffff), 0xffffffff},
		{four(0x0000007f), 0x7f},
		{four(0x8000001b), 0x8000001b},
		{four(0x30200073 | 1<<7), 0x302000f3},
		// Of a half word that means nothing tval has 16 bits, whatever lies behind it.
		{four(0xffff8002), 0x8002},
		{four(0xffff0000), 0},
		{"\x02\x80", 0x8002},
	} {
		m := made(t, 64)
		lay(t, m, 32, c.image)
		lay(t, m, 0, image(t, "jal x0, 32"))
		retire(t, m, 1)
		before := m.Show()[4:132]
		meets(t, m, 2, c.tval)
		wantPc(t, m, 0)
		if m.Show()[4:132] != before {
			t.Errorf("% x changes a register", c.image)
		}
	}
}

func TestFetchesBeyondRam(t *testing.T) {
	c := image(t, "c.addi x8, x8, 1")
	w := image(t, "addi x8, x8, 1")
	for _, k := range []struct {
		size  int
		image string
		steps int
		tval  int
	}{
		{0, "", 0, base},
		{1, c[:1], 0, base},
		{2, c, 1, base + 2},
		{3, c + c[:1], 1, base + 2},
		{2, w[:2], 0, base + 2},
		{3, w[:3], 0, base + 2},
		{4, w, 1, base + 4},
		{4, c + w[:2], 1, base + 4},
		{5, c + w[:3], 1, base + 4},
		{6, c + w, 2, base + 6},
		{6, w + w[:2], 1, base + 6},
		{7, w + w[:3], 1, base + 6},
	} {
		m := made(t, k.size)
		lay(t, m, 0, k.image)
		retire(t, m, k.steps)
		meets(t, m, 1, k.tval)
		wantReg(t, m, 8, k.steps)
		wantCsr(t, m, api.CsrMcycle, k.steps+1)
		wantCsr(t, m, api.CsrMinstret, k.steps)
	}
}

func TestFetchesAnywhereElse(t *testing.T) {
	for _, at := range []int{0, 2, api.TimerBase, api.TimerBase + 0xbff8, api.PortBase, base - 2, base - 4, base + 64, base + api.MaxRam, 0xfffffffe} {
		m := booted(t, 64, set(1, at), "jalr x0, 0(x1)")
		retire(t, m, 3)
		wantPc(t, m, at)
		meets(t, m, 1, at)
	}
}

func TestFetchesAcrossPages(t *testing.T) {
	m := made(t, 8192)
	lay(t, m, 4094, image(t, "addi x5, x0, 77", "c.addi x8, x8, 1"))
	lay(t, m, 0, image(t, set(1, base+4094), "jalr x0, 0(x1)"))
	retire(t, m, 5)
	wantReg(t, m, 5, 77)
	wantReg(t, m, 8, 1)
	wantPc(t, m, base+4100)
}

func TestRun(t *testing.T) {
	m := booted(t, 64, "loop: addi x1, x1, 1", "beq x0, x0, loop")
	before := whole(t, m)
	for _, n := range []int{-1, api.MaxRun + 1, math.MinInt, math.MaxInt} {
		if k, e := m.Run(n); k != 0 || e != api.ErrArg {
			t.Errorf("Run(%d): %d, %v", n, k, e)
		}
	}
	if k, e := m.Run(0); k != 0 || e != api.OK {
		t.Errorf("Run(0): %d, %v", k, e)
	}
	if whole(t, m) != before {
		t.Errorf("a Run of no steps changes something")
	}
	for _, n := range []int{1, 6, api.MaxRun} {
		if k, e := m.Run(n); k != n || e != api.OK {
			t.Errorf("Run(%d): %d, %v", n, k, e)
		}
	}
	wantReg(t, m, 1, (1+6+api.MaxRun+1)/2)
	wantCsr(t, m, api.CsrMcycle, 1+6+api.MaxRun)
	wantCsr(t, m, api.CsrMinstret, 1+6+api.MaxRun)
}

func TestRunCountsTheRetired(t *testing.T) {
	m := booted(t, 64, "addi x1, x1, 1", "addi x1, x1, 1", "c.addi x1, x1, 1", "ebreak")
	if k, e := m.Run(10); k != 3 || e != api.OK {
		t.Errorf("Run(10): %d, %v", k, e)
	}
	wantReg(t, m, 1, 3)
	wantCsr(t, m, api.CsrMcycle, 10)
	wantCsr(t, m, api.CsrCycle, 10)
	wantCsr(t, m, api.CsrMinstret, 3)
	wantCsr(t, m, api.CsrInstret, 3)
}

func TestRunIsSteps(t *testing.T) {
	a := booted(t, 256, set(4, base+128), "loop: c.addi x2, x2, 3", "amoadd.w x3, x2, x4, 0", "lw x5, 0(x4)", "blt x2, x5, loop", "c.ebreak")
	b := a.Copy()
	if _, e := a.Run(100); e != api.OK {
		t.Fatal(e)
	}
	for range 100 {
		b.Step()
	}
	if whole(t, a) != whole(t, b) {
		t.Errorf("Run differs from steps")
	}
}

func TestCounters(t *testing.T) {
	m := booted(t, 64, "addi x1, x0, 1", "fence x0, x0, 0", "c.ebreak")
	for k, c := range [][2]int{{1, 1}, {2, 2}, {3, 2}, {4, 2}} {
		m.Step()
		for _, n := range []int{api.CsrMcycle, api.CsrCycle} {
			wantCsr(t, m, n, c[0])
		}
		for _, n := range []int{api.CsrMinstret, api.CsrInstret} {
			wantCsr(t, m, n, c[1])
		}
		if t.Failed() {
			t.Fatalf("behind step %d", k+1)
		}
	}
	// Calls that are no steps count nothing.
	m.Tick(5)
	m.Feed("x")
	m.Drain()
	m.Flush()
	lay(t, m, 0, "abc")
	wantCsr(t, m, api.CsrMcycle, 4)
	wantCsr(t, m, api.CsrMinstret, 2)
}

// Some bytes of a word that was carried out are written, by a store or an image that may begin ahead of it and end behind it.
func TestWritesOverAWord(t *testing.T) {
	for _, at := range []int{128, 130, 4094} {
		for n, store := range map[int]string{1: "sb x7, 0(x6)", 2: "sh x7, 0(x6)", 4: "sw x7, 0(x6)"} {
			for off := 1 - n; off <= 3; off++ {
				writeOver(t, at, off, n, store)
				writeOver(t, at, off, n, "fence x0, x0, 0")
			}
		}
	}
}

// writeOver lets n bytes be written, off bytes from the beginning of a word on that was carried out and is carried out again: by an image, if the line is none that stores.
func writeOver(t *testing.T, at int, off int, n int, line string) {
	t.Helper()
	m := made(t, 8192)
	back := image(t, "jalr x0, 0(x30)")
	lay(t, m, at, image(t, "addi x5, x0, 0x456")+back)
	piece := peek(t, m, at+off, n)
	lay(t, m, at, image(t, "addi x5, x0, 0x123")+back)
	word := []byte(peek(t, m, at, 4))
	value := 0
	for k := range n {
		value |= int(piece[k]) << (8 * k)
		if off+k >= 0 && off+k < 4 {
			word[off+k] = piece[k]
		}
	}
	lay(t, m, 0, image(t, set(30, base+64), set(31, base+at), "jalr x0, 0(x31)"))
	lay(t, m, 64, image(t, set(6, base+at+off), set(7, value), line, "jalr x0, 0(x31)"))
	retire(t, m, 7)
	wantReg(t, m, 5, 0x123)
	if line[0] == 'f' {
		lay(t, m, at+off, piece)
	}
	retire(t, m, 7)
	wantRam(t, m, at, string(word)+back)
	if got, want := reg(t, m, 5), int(word[2])>>4+int(word[3])<<4; got != want {
		t.Errorf("%s: %d bytes, %d from a word at %d on: x5 is %#x, want %#x", line, n, off, at, got, want)
	}
}

// A loop rewrites its own words, by halves and bytes, ahead of and behind pc.
func TestStoresIntoWhatIsCarriedOut(t *testing.T) {
	m := booted(t, 256,
		set(1, base), "addi x2, x0, 0",
		"loop: addi x5, x0, 1", // at 12: the low bits of its immediate are the upper half of the byte at 14
		"addi x2, x2, 16",
		"sb x2, 14(x1)",
		"jal x0, loop")
	retire(t, m, 3)
	for k := range 5 {
		retire(t, m, 1)
		want := k % 16
		if k == 0 {
			want = 1
		}
		wantReg(t, m, 5, want)
		retire(t, m, 3)
	}
	// A half word: the upper half of the word that is fetched in two.
	m = booted(t, 256, set(1, base), set(2, 0x7ff0), "sh x2, 22(x1)", "addi x5, x0, 1", "ebreak")
	retire(t, m, 6)
	wantReg(t, m, 5, 0x7ff)
	// An image.
	m = booted(t, 64, "loop: addi x5, x5, 1", "jal x0, loop")
	retire(t, m, 4)
	wantReg(t, m, 5, 2)
	lay(t, m, 0, image(t, "addi x5, x5, 100"))
	retire(t, m, 1)
	wantReg(t, m, 5, 102)
	// A word that is written by sc.w and by an amo instruction.
	m = booted(t, 256,
		set(1, base+36), set(2, 0x00500293), set(3, 0x00100000), "addi x9, x0, 2",
		"loop: lr.w x4, x1, 0", "sc.w x4, x2, x1, 0",
		"addi x5, x0, 1", "amoadd.w x6, x3, x1, 0", "addi x9, x9, -1", "jal x0, -12")
	retire(t, m, 10)
	wantReg(t, m, 5, 5)
	retire(t, m, 4)
	wantReg(t, m, 5, 6)
}
