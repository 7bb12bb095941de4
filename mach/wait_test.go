package mach_test

import (
	"testing"

	"machine/api"
	"machine/mach"
)

func wantWaits(t *testing.T, m *mach.Machine, want bool) {
	t.Helper()
	letter := byte('-')
	if want {
		letter = 'w'
	}
	if got := m.Show()[waitsAt]; got != letter {
		t.Errorf("Show says %c of waiting, want %c", got, letter)
	}
}

// idles does a step that must be Idle and change mcycle alone.
func idles(t *testing.T, m *mach.Machine) {
	t.Helper()
	before := m.Copy()
	wantStep(t, m, api.Idle, 0)
	a, b := before.Show(), m.Show()
	const cycleAt = csrsAt + 4*19
	if a[:cycleAt] != b[:cycleAt] || a[cycleAt+8:] != b[cycleAt+8:] {
		t.Errorf("an idle step changes something")
	}
	if wordAt(b, cycleAt) != wordAt(a, cycleAt)+1 {
		t.Errorf("an idle step: mcycle %d, behind %d", wordAt(b, cycleAt), wordAt(a, cycleAt))
	}
	wantRam(t, m, 0, peek(t, before, 0, before.Size()))
}

func TestWaits(t *testing.T) {
	for _, mode := range []int{api.Super, api.Mach} {
		m := entered(t, mode, []put{{api.CsrMie, mext}, {api.CsrMtvec, machHandler}}, set(1, api.PortBase), "addi x2, x0, 1", "sb x2, 1(x1)", "wfi", "addi x3, x0, 1", "addi x3, x0, 2")
		retire(t, m, 4)
		wantWaits(t, m, false)
		retire(t, m, 1)
		wantWaits(t, m, true)
		wantPc(t, m, base+20)
		for range 5 {
			idles(t, m)
		}
		// Neither time nor a byte sent or drained, nor an image, ends it by itself.
		m.Tick(1000)
		m.Drain()
		m.Flush()
		idles(t, m)
		if k, e := m.Run(10); k != 0 || e != api.OK {
			t.Errorf("Run: %d, %v", k, e)
		}
		m.Feed("x")
		wantWaits(t, m, true)
		if mode == api.Mach {
			// MIE is 0: the hart goes on, and the interrupt is not taken.
			retire(t, m, 1)
			wantWaits(t, m, false)
			wantReg(t, m, 3, 1)
			retire(t, m, 1)
			continue
		}
		wantStep(t, m, api.Interrupt, 11)
		wantWaits(t, m, false)
		wantCsr(t, m, api.CsrMepc, base+20)
		wantReg(t, m, 3, 0)
	}
}

func TestWaitsForWhatIsAlreadyThere(t *testing.T) {
	m := entered(t, api.Mach, []put{{api.CsrMie, ssoft}, {api.CsrMip, ssoft}}, "wfi", "addi x3, x0, 1")
	retire(t, m, 1)
	wantWaits(t, m, true)
	retire(t, m, 1)
	wantWaits(t, m, false)
	wantReg(t, m, 3, 1)
	// What is not in mie does not count.
	m = entered(t, api.Mach, []put{{api.CsrMie, mtime | stime}, {api.CsrMip, ssoft}}, "wfi", "addi x3, x0, 1")
	retire(t, m, 1)
	idles(t, m)
	wantWaits(t, m, true)
}

// What ends the wait hangs on mip and mie alone: neither the mode, nor the enables, nor mideleg matter.
func TestWhatEndsAWait(t *testing.T) {
	for _, mode := range []int{api.Super, api.Mach} {
		for enables := range 4 {
			for _, deleg := range []int{0, 0x222} {
				for _, mip := range []int{0, ssoft, stime, sext, 0x222} {
					for _, mask := range []int{0, ssoft, stime, sext, 0x222, 0x888, 0xaaa} {
						status := enables&1*sie | enables>>1*mie
						m := entered(t, mode, []put{{api.CsrMideleg, deleg}, {api.CsrMip, mip}, {api.CsrMie, mask}, {api.CsrMstatus, status}, {api.CsrMtvec, machHandler}, {api.CsrStvec, superHandler}}, "wfi", "addi x3, x0, 1")
						if follows(t, m); m.Pc() != base+4 {
							continue // An interrupt came ahead of wfi.
						}
						wantWaits(t, m, true)
						if mip&mask == 0 {
							idles(t, m)
							idles(t, m)
							continue
						}
						// In the mode and with the enables that let wfi be carried out, the interrupt is not taken behind it either.
						retire(t, m, 1)
						wantReg(t, m, 3, 1)
						wantWaits(t, m, false)
					}
				}
			}
		}
	}
}

func TestTheTimerEndsAWait(t *testing.T) {
	for _, enable := range []int{0, mie} {
		m := entered(t, api.Mach, []put{{api.CsrMie, mtime}, {api.CsrMstatus, enable}, {api.CsrMtvec, machHandler + 1}},
			set(1, api.TimerBase+0x4000), "addi x2, x0, 9", "sw x2, 0(x1)", "sw x0, 4(x1)", "wfi", "addi x3, x0, 1")
		retire(t, m, 6)
		m.Tick(8)
		idles(t, m)
		m.Tick(1)
		if enable == 0 {
			retire(t, m, 1)
			wantReg(t, m, 3, 1)
			continue
		}
		wantStep(t, m, api.Interrupt, 7)
		wantPc(t, m, machHandler+28)
		wantCsr(t, m, api.CsrMepc, base+24)
	}
}

// A hart that was woken waits no more, even if the cause goes before its next step.
func TestAWokenHartWaitsNoMore(t *testing.T) {
	m := entered(t, api.Mach, []put{{api.CsrMie, mext}}, set(1, api.PortBase), "addi x2, x0, 1", "sb x2, 1(x1)", "wfi", "lbu x3, 0(x1)", "addi x4, x0, 1")
	retire(t, m, 5)
	m.Feed("q")
	retire(t, m, 1)
	wantReg(t, m, 3, 'q')
	wantCsr(t, m, api.CsrMip, 0)
	retire(t, m, 1)
	wantReg(t, m, 4, 1)
	// Room to send, too, ends a wait.
	m = entered(t, api.Mach, []put{{api.CsrMie, mext}}, set(1, api.PortBase), "addi x2, x0, 2", "addi x5, x0, 8", "loop: sb x0, 0(x1)", "addi x5, x5, -1", "bne x5, x0, loop", "sb x2, 1(x1)", "wfi", "addi x4, x0, 1")
	retire(t, m, 4+24+2)
	idles(t, m)
	m.Drain()
	retire(t, m, 1)
	wantReg(t, m, 4, 1)
}

func TestResetAndCopyOfAHartThatWaits(t *testing.T) {
	m := entered(t, api.Super, []put{{api.CsrMie, mext}}, set(1, api.PortBase), "addi x2, x0, 1", "sb x2, 1(x1)", "wfi", "addi x3, x0, 1")
	retire(t, m, 5)
	c := m.Copy()
	wantWaits(t, c, true)
	idles(t, c)
	m.Feed("x")
	wantStep(t, m, api.Interrupt, 11)
	idles(t, c)
	c.Reset()
	wantWaits(t, c, false)
	if c.Show() != fresh() {
		t.Errorf("Reset: % x", c.Show())
	}
	retire(t, c, 1)
	// Load does not wake it, even under pc.
	m = entered(t, api.Mach, nil, "wfi")
	retire(t, m, 1)
	lay(t, m, 4, image(t, "addi x3, x0, 1"))
	idles(t, m)
}
