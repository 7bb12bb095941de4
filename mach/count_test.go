package mach_test

import (
	"fmt"
	"testing"

	"machine/api"
)

// A counter does not count in the step that wrote it or its half; the other does.
func TestWrittenCounters(t *testing.T) {
	for _, c := range []struct {
		n                int
		cycle, instret   int // behind the write; ahead of it each is 2
		cycleh, instreth int
	}{
		{api.CsrMcycle, 7, 3, 0, 0},
		{api.CsrMcycleh, 2, 3, 7, 0},
		{api.CsrMinstret, 3, 7, 0, 0},
		{api.CsrMinstreth, 3, 2, 0, 7},
		{api.CsrMscratch, 3, 3, 0, 0},
		{0xb03, 3, 3, 0, 0},
		{0xb83, 3, 3, 0, 0},
	} {
		m := booted(t, 64, set(1, 7), fmt.Sprintf("csrrw x2, %d, x1", c.n))
		retire(t, m, 3)
		wantCsr(t, m, api.CsrMcycle, c.cycle)
		wantCsr(t, m, api.CsrMcycleh, c.cycleh)
		wantCsr(t, m, api.CsrMinstret, c.instret)
		wantCsr(t, m, api.CsrMinstreth, c.instreth)
		// In the next step they count again.
		lay(t, m, 12, image(t, "addi x0, x0, 0"))
		retire(t, m, 1)
		wantCsr(t, m, api.CsrMcycle, c.cycle+1)
		wantCsr(t, m, api.CsrMinstret, c.instret+1)
	}
}

// Whether a counter is written hangs on the instruction alone, not on whether that changes it.
func TestWaysToWriteACounter(t *testing.T) {
	for _, counter := range []int{api.CsrMcycle, api.CsrMinstret} {
		for _, c := range []struct {
			op    string
			off   int // from the counter's number: its own, its half's or its view's
			by    string
			x2    int
			count int // the counter behind two steps and this one
		}{
			{"csrrw", 0, "x0", 2, 0},
			{"csrrwi", 0, "0", 2, 0},
			{"csrrwi", 0, "9", 2, 9},
			{"csrrs", 0, "x0", 2, 3},
			{"csrrc", 0, "x0", 2, 3},
			{"csrrsi", 0, "0", 2, 3},
			{"csrrci", 0, "0", 2, 3},
			// x5 is 0: what is written is what it was.
			{"csrrs", 0, "x5", 2, 2},
			{"csrrc", 0, "x5", 2, 2},
			{"csrrci", 0, "4", 2, 2},
			{"csrrsi", 0, "8", 2, 10},
			{"csrrci", 0, "2", 2, 0},
			{"csrrs", 0x80, "x0", 0, 3},
			{"csrrs", 0x80, "x5", 0, 2},
			{"csrrwi", 0x80, "0", 0, 2},
			{"csrrs", 0x100, "x0", 2, 3},
			{"csrrs", 0x180, "x0", 0, 3},
		} {
			m := booted(t, 64, "addi x1, x0, 1", "addi x1, x0, 1", fmt.Sprintf("%s x2, %d, %s", c.op, counter+c.off, c.by))
			retire(t, m, 3)
			wantReg(t, m, 2, c.x2)
			if got, _ := m.Csr(counter); got != c.count {
				t.Errorf("%s of %#x by %s: %d, want %d", c.op, counter+c.off, c.by, got, c.count)
			}
			wantCsr(t, m, api.CsrMcycle+api.CsrMinstret-counter, 3)
		}
	}
}

// A write that may not be is none: mcycle counts the step.
func TestRefusedWritesOfCounters(t *testing.T) {
	for _, line := range []string{"csrrwi x0, 0xb00, 5", "csrrwi x0, 0xb80, 5", "csrrwi x0, 0xb02, 5", "csrrwi x0, 0xc00, 5"} {
		m := entered(t, api.Super, []put{{api.CsrMcounteren, 7}}, line)
		cycle, _ := m.Csr(api.CsrMcycle)
		instret, _ := m.Csr(api.CsrMinstret)
		refused(t, m)
		wantCsr(t, m, api.CsrMcycle, cycle+1)
		wantCsr(t, m, api.CsrMcycleh, 0)
		wantCsr(t, m, api.CsrMinstret, instret)
	}
}

// What counts is whether the bit was set as the step began.
func TestCountersThatAreInhibited(t *testing.T) {
	for inhibit := range 8 {
		m := booted(t, 64, "addi x1, x0, 1", fmt.Sprintf("csrrwi x0, 0x320, %d", inhibit), "addi x1, x0, 1", "ecall")
		retire(t, m, 3)
		cycle, instret := 3, 3
		if inhibit&1 != 0 {
			cycle = 2
		}
		if inhibit&4 != 0 {
			instret = 2
		}
		wantCsr(t, m, api.CsrMcountinhibit, inhibit&5)
		wantCsr(t, m, api.CsrMcycle, cycle)
		wantCsr(t, m, api.CsrCycle, cycle)
		wantCsr(t, m, api.CsrMinstret, instret)
		wantStep(t, m, api.Exception, 11)
		if inhibit&1 == 0 {
			cycle++
		}
		wantCsr(t, m, api.CsrMcycle, cycle)
		wantCsr(t, m, api.CsrMinstret, instret)
	}
	// The step that clears the bit does not count yet; a write of what is inhibited is kept.
	m := booted(t, 64, "csrrwi x0, 0x320, 5", "csrrwi x0, 0xb00, 20", "csrrwi x0, 0xb82, 30", "csrrwi x0, 0x320, 0", "addi x1, x0, 1")
	retire(t, m, 4)
	wantCsr(t, m, api.CsrMcycle, 20)
	wantCsr(t, m, api.CsrMinstret, 1)
	wantCsr(t, m, api.CsrMinstreth, 30)
	retire(t, m, 1)
	wantCsr(t, m, api.CsrMcycle, 21)
	wantCsr(t, m, api.CsrMinstret, 2)
	// Time is no counter of a step: it goes on.
	m.Tick(5)
	wantCsr(t, m, api.CsrTime, 5)
}

// Idle steps and interrupts count as steps, unless mcycle is inhibited.
func TestStepsThatRetireNothing(t *testing.T) {
	for _, inhibit := range []int{0, 1} {
		m := entered(t, api.Mach, []put{{api.CsrMie, mext}, {api.CsrMstatus, mie}, {api.CsrMtvec, machHandler}, {api.CsrMcountinhibit, inhibit}}, set(1, api.PortBase), "addi x2, x0, 1", "sb x2, 1(x1)", "wfi")
		lay(t, m, 0x400, image(t, "ecall"))
		retire(t, m, 5)
		cycle, _ := m.Csr(api.CsrMcycle)
		instret, _ := m.Csr(api.CsrMinstret)
		wantStep(t, m, api.Idle, 0)
		wantStep(t, m, api.Idle, 0)
		m.Feed("x")
		wantStep(t, m, api.Interrupt, 11)
		wantStep(t, m, api.Exception, 11)
		wantCsr(t, m, api.CsrMcycle, cycle+4-4*inhibit)
		wantCsr(t, m, api.CsrMinstret, instret)
	}
}

func TestCountersHave64Bits(t *testing.T) {
	for _, c := range []struct{ low, high, nextLow, nextHigh int }{
		{1<<32 - 1, 0, 0, 1},
		{1<<32 - 1, 41, 0, 42},
		{1<<32 - 2, 41, 1<<32 - 1, 41},
		{1<<32 - 1, 1<<32 - 1, 0, 0},
		{1<<31 - 1, 1<<31 - 1, 1 << 31, 1<<31 - 1},
	} {
		for _, n := range []int{api.CsrMcycle, api.CsrMinstret} {
			m := booted(t, 64, set(1, c.high), set(2, c.low), fmt.Sprintf("csrrw x0, %d, x1", n+0x80), fmt.Sprintf("csrrw x0, %d, x2", n), "addi x0, x0, 0")
			retire(t, m, 6)
			wantCsr(t, m, n, c.low)
			wantCsr(t, m, n+0x80, c.high)
			retire(t, m, 1)
			wantCsr(t, m, n, c.nextLow)
			wantCsr(t, m, n+0x80, c.nextHigh)
			wantCsr(t, m, n+0x100, c.nextLow)
			wantCsr(t, m, n+0x180, c.nextHigh)
		}
	}
}

// Other instructions may hold a counter's number as their immediate: they write none.
func TestCountersThatOtherWordsName(t *testing.T) {
	for _, n := range []int{api.CsrMcycle, api.CsrMcycleh, api.CsrMinstret, api.CsrMinstreth} {
		for _, line := range []string{"beq x1, x1, %d", "bne x1, x1, %d", "jal x1, %d", "lui x1, %d"} {
			m := booted(t, 4096, "addi x1, x0, 1", fmt.Sprintf(line, n))
			retire(t, m, 2)
			wantCsr(t, m, api.CsrMcycle, 2)
			wantCsr(t, m, api.CsrMinstret, 2)
		}
	}
}
