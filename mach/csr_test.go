package mach_test

import (
	"fmt"
	"testing"

	"machine/api"
	"machine/mach"
)

// csrWord lays an instruction at pc.
func csrWord(t *testing.T, m *mach.Machine, i api.Ins) {
	t.Helper()
	lay(t, m, m.Pc()-base, wordOf(t, i))
}

// written tells a machine in mode M in which a number has been written to a CSR by csrrw.
func written(t *testing.T, n int, v int) *mach.Machine {
	t.Helper()
	m := booted(t, 64, set(1, v), fmt.Sprintf("csrrw x2, %d, x1", n))
	retire(t, m, 3)
	return m
}

func TestMstatusAndItsView(t *testing.T) {
	// Example 9.
	m := written(t, api.CsrMstatus, 1<<32-1)
	wantCsr(t, m, api.CsrMstatus, 0x7e19aa)
	wantCsr(t, m, api.CsrSstatus, 0xc0122)
}

// All that can be written, but for the views of others: what each keeps, and that nothing else changes.
func TestCsrsKeepTheirBits(t *testing.T) {
	for n, mask := range map[int]int{
		0x300: 0x7e19aa, 0x302: 0xb3ff, 0x303: 0x222, 0x304: 0xaaa, 0x344: 0x222, 0x305: 0xfffffffd, 0x105: 0xfffffffd,
		0x341: 0xfffffffe, 0x141: 0xfffffffe, 0x306: 7, 0x106: 7, 0x320: 5, 0x340: 0xffffffff, 0x140: 0xffffffff,
		0x342: 0xffffffff, 0x142: 0xffffffff, 0x343: 0xffffffff, 0x143: 0xffffffff, 0x180: 0xffffffff,
		0xb00: 0xffffffff, 0xb80: 0xffffffff, 0xb02: 0xffffffff, 0xb82: 0xffffffff,
	} {
		values := append(edges(), 0x55555555, 0xaaaaaaaa)
		for k := range 32 {
			values = append(values, 1<<k, 1<<32-1-1<<k)
		}
		for _, v := range values {
			if n == api.CsrMstatus && v&mpp == 2<<11 {
				continue
			}
			m := written(t, n, v)
			wantCsr(t, m, n, v&mask)
			for _, c := range shownCsrs() {
				want := 0
				switch c {
				case n:
					want = v & mask
				case api.CsrMcycle, api.CsrMinstret:
					want = 3
					if n%0x80 == c%0x80 && n >= 0xb00 {
						want = 2 // The step that wrote the upper half does not count.
					}
				}
				if got := shownCsr(t, m, c); got != want {
					t.Fatalf("csrrw of %#x to %#x: %#x is %#x, want %#x", v, n, c, got, want)
				}
			}
		}
	}
}

// Those that can be read alone, and those that read 0 whatever is written.
func TestCsrsThatKeepNothing(t *testing.T) {
	numbers := []int{api.CsrMisa}
	for n := range 0x1000 {
		if n >= 0x323 && n <= 0x33f || n >= 0xb03 && n <= 0xb1f || n >= 0xb83 && n <= 0xb9f {
			numbers = append(numbers, n)
		}
	}
	for _, n := range numbers {
		want := 0
		if n == api.CsrMisa {
			want = 0x40141105
		}
		m := written(t, n, 1<<32-1)
		wantCsr(t, m, n, want)
		wantReg(t, m, 2, want)
		for _, c := range shownCsrs() {
			if got := shownCsr(t, m, c); got != 0 && c != api.CsrMcycle && c != api.CsrMinstret {
				t.Errorf("csrrw to %#x: %#x is %#x", n, c, got)
			}
		}
		wantCsr(t, m, api.CsrMcycle, 3)
		wantCsr(t, m, api.CsrMinstret, 3)
	}
	for _, n := range []int{0xf11, 0xf12, 0xf13, 0xf14, 0xc03, 0xc1f, 0xc83, 0xc9f, 0x323, 0x33f, 0xb03, 0xb1f, 0xb83, 0xb9f} {
		m := booted(t, 64, "addi x2, x0, 5", fmt.Sprintf("csrrs x2, %d, x0", n))
		retire(t, m, 2)
		wantReg(t, m, 2, 0)
	}
}

// begins are numbers that a CSR may keep whole.
func begins(mask int) []int {
	return []int{0, mask, 0x55555555 & mask, 0xaaaaaaaa & mask, 0x12345678 & mask}
}

func TestWhatBecomesOfACsr(t *testing.T) {
	for n, mask := range masks {
		if n >= 0xb00 || n == api.CsrMstatus || n == api.CsrMip {
			continue // They have tests of their own.
		}
		for _, was := range begins(mask) {
			for _, v := range []int{0, 1<<32 - 1, 0x0f0f0f0f, 0xdeadbeef, 31} {
				for op, want := range map[int]int{api.Csrrw: v, api.Csrrs: was | v, api.Csrrc: was &^ v} {
					m := booted(t, 64, set(1, was), fmt.Sprintf("csrrw x0, %d, x1", n), set(2, v))
					retire(t, m, 5)
					csrWord(t, m, api.Ins{Op: op, Rd: 3, Rs1: 2, Imm: n, Len: 4})
					retire(t, m, 1)
					wantReg(t, m, 3, was)
					wantReg(t, m, 2, v)
					if got, _ := m.Csr(n); got != want&mask {
						t.Fatalf("%s of %#x to %#x, which was %#x: %#x, want %#x", api.Name(op), v, n, was, got, want&mask)
					}
				}
			}
			for _, v := range []int{0, 1, 5, 16, 31} {
				for op, want := range map[int]int{api.Csrrwi: v, api.Csrrsi: was | v, api.Csrrci: was &^ v} {
					m := booted(t, 64, set(1, was), fmt.Sprintf("csrrw x0, %d, x1", n), set(v, 0x5a5a5a5a))
					retire(t, m, 5)
					csrWord(t, m, api.Ins{Op: op, Rd: 3, Rs1: v, Imm: n, Len: 4})
					retire(t, m, 1)
					wantReg(t, m, 3, was)
					if got, _ := m.Csr(n); got != want&mask {
						t.Fatalf("%s of %d to %#x, which was %#x: %#x, want %#x", api.Name(op), v, n, was, got, want&mask)
					}
				}
			}
		}
	}
}

func TestRdMayBeTheOperand(t *testing.T) {
	for op, want := range map[string]int{"csrrw": 0x0ff0, "csrrs": 0xfff0, "csrrc": 0xf000} {
		m := booted(t, 64, set(1, 0xff00), "csrrw x0, 0x340, x1", set(1, 0x0ff0), op+" x1, 0x340, x1")
		retire(t, m, 6)
		wantReg(t, m, 1, 0xff00)
		wantCsr(t, m, api.CsrMscratch, want)
	}
	// x0 stays 0.
	m := booted(t, 64, set(1, 0xff00), "csrrw x0, 0x340, x1", "csrrw x0, 0x340, x0", "csrrs x0, 0x301, x0")
	retire(t, m, 5)
	wantReg(t, m, 0, 0)
	wantCsr(t, m, api.CsrMscratch, 0)
}

func TestMppIsNeverTwo(t *testing.T) {
	for _, was := range []int{0, 1, 3} {
		for v := range 4 {
			for op, becomes := range map[string]int{"csrrw": v, "csrrs": was | v, "csrrc": was &^ v} {
				// The other bits become what is written.
				m := booted(t, 64, set(1, was<<11|tsr), "csrrw x0, 0x300, x1", set(2, v<<11|tvm|sie), op+" x3, 0x300, x2")
				retire(t, m, 6)
				want := map[string]int{"csrrw": tvm | sie, "csrrs": tsr | tvm | sie, "csrrc": tsr}[op]
				if becomes == 2 {
					becomes = was
				}
				wantCsr(t, m, api.CsrMstatus, want|becomes<<11)
				wantReg(t, m, 3, was<<11|tsr)
			}
		}
	}
}

func TestSstatusIsPartOfMstatus(t *testing.T) {
	for _, mode := range []int{api.Super, api.Mach} {
		for _, was := range []int{0, 0x7e19aa} {
			for _, v := range []int{0, 1<<32 - 1, 0xc0122, sie, spp, 0x55555555, 0xaaaaaaaa} {
				m := entered(t, mode, []put{{api.CsrMstatus, was}}, set(1, v), "csrrs x4, 0x100, x0", "csrrw x2, 0x100, x1", "csrrs x3, 0x100, x0")
				before, _ := m.Csr(api.CsrMstatus)
				retire(t, m, 5)
				wantReg(t, m, 4, was&0xc0122)
				wantReg(t, m, 2, was&0xc0122)
				wantReg(t, m, 3, v&0xc0122)
				wantCsr(t, m, api.CsrMstatus, before&^0xc0122|v&0xc0122)
			}
		}
	}
}

func TestSieIsPartOfMie(t *testing.T) {
	for _, deleg := range []int{0, ssoft, stime, sext, 0x222} {
		for _, was := range []int{0, 0xaaa, 0x088, 0x222} {
			for _, v := range []int{0, 1<<32 - 1, 0x222, ssoft, 0x888} {
				m := booted(t, 128, set(1, deleg), "csrrw x0, 0x303, x1", set(1, was), "csrrw x0, 0x304, x1", set(1, v), "csrrw x2, 0x104, x1")
				retire(t, m, 9)
				wantReg(t, m, 2, was&deleg)
				wantCsr(t, m, api.CsrMie, was&^deleg|v&deleg)
				wantCsr(t, m, api.CsrSie, v&deleg)
			}
		}
	}
}

func TestSipWritesOneBit(t *testing.T) {
	for _, deleg := range []int{0, ssoft, stime | sext, 0x222} {
		for _, was := range []int{0, 0x222, ssoft, stime} {
			for op, becomes := range map[string]int{"csrrw": ssoft, "csrrs": ssoft, "csrrc": 0} {
				m := booted(t, 128, set(1, deleg), "csrrw x0, 0x303, x1", set(1, was), "csrrw x0, 0x344, x1", set(1, 1<<32-1), op+" x2, 0x144, x1")
				retire(t, m, 9)
				want := was
				if deleg&ssoft != 0 {
					want = was&^ssoft | becomes
				}
				wantReg(t, m, 2, was&deleg)
				wantCsr(t, m, api.CsrMip, want)
				wantCsr(t, m, api.CsrSip, want&deleg)
			}
		}
	}
	// Written 0 it goes, the others stay.
	m := booted(t, 128, set(1, 0x222), "csrrw x0, 0x303, x1", "csrrw x0, 0x344, x1", "csrrw x2, 0x144, x0")
	retire(t, m, 5)
	wantCsr(t, m, api.CsrMip, 0x220)
	if got := shownCsr(t, m, api.CsrMip); got != 0x220 {
		t.Errorf("of mip %#x was written", got)
	}
}

// lined tells a machine in mode M all of whose lines are up, with so much written of mip.
func lined(t *testing.T, mip int, lines ...string) *mach.Machine {
	t.Helper()
	begin := image(t, set(1, api.TimerBase), set(2, api.PortBase), "addi x3, x0, 2", "sb x3, 1(x2)", "addi x3, x0, 1", "sw x3, 0(x1)",
		set(1, api.TimerBase+0x4000), "sw x0, 0(x1)", "sw x0, 4(x1)", set(1, mip), "csrrw x0, 0x344, x1")
	m := made(t, 256)
	lay(t, m, 0, begin+image(t, lines...))
	retire(t, m, len(begin)/4)
	return m
}

func TestMipHasTheLines(t *testing.T) {
	for _, written := range []int{0, 1<<32 - 1, ssoft, stime, sext} {
		m := lined(t, written, "csrrs x4, 0x344, x0")
		wantCsr(t, m, api.CsrMip, written&0x222|0xa88)
		if got := shownCsr(t, m, api.CsrMip); got != written&0x222 {
			t.Errorf("of mip %#x was written, want %#x", got, written&0x222)
		}
		retire(t, m, 1)
		wantReg(t, m, 4, written&0x222|0xa88)
	}
}

// Bit 9 begins with what was written of it, not with the line; rd has the line.
func TestMipsBitNine(t *testing.T) {
	for _, was := range []int{0, sext, ssoft | stime, 0x222} {
		for _, v := range []int{0, 1<<32 - 1, sext, ssoft, stime, msoft | mtime | mext} {
			for op, want := range map[string]int{"csrrw": v, "csrrs": was | v, "csrrc": was &^ v} {
				m := lined(t, was, set(5, v), op+" x4, 0x344, x5")
				retire(t, m, 3)
				wantReg(t, m, 4, was|0xa88)
				wantCsr(t, m, api.CsrMip, want&0x222|0xa88)
				if got := shownCsr(t, m, api.CsrMip); got != want&0x222 {
					t.Errorf("%s of %#x to mip, of which %#x was written: %#x, want %#x", op, v, was, got, want&0x222)
				}
			}
		}
		// The line is not kept by an instruction that names other bits, and goes when its cause goes.
		m := lined(t, was, "csrrsi x4, 0x344, 2", "sb x0, 1(x2)")
		retire(t, m, 2)
		wantCsr(t, m, api.CsrMip, was|ssoft|0x088)
		m = lined(t, was, "csrrci x4, 0x344, 2", "sb x0, 1(x2)", "csrrs x4, 0x344, x0")
		retire(t, m, 3)
		wantReg(t, m, 4, was&^ssoft|0x088)
	}
}

func TestViewsOfCounters(t *testing.T) {
	m := booted(t, 256, set(1, 0x11111111), "csrrw x0, 0xb80, x1", set(1, 0x22222222), "csrrw x0, 0xb82, x1", set(1, 0x33333333), "csrrw x0, 0xb02, x1", set(1, 0x44444444), "csrrw x0, 0xb00, x1",
		"csrrs x5, 0xc00, x0", "csrrs x6, 0xb00, x0", "csrrs x7, 0xc80, x0", "csrrs x8, 0xb80, x0",
		"csrrs x9, 0xc02, x0", "csrrs x10, 0xb02, x0", "csrrs x11, 0xc82, x0", "csrrs x12, 0xb82, x0", "csrrs x13, 0xc01, x0", "csrrs x14, 0xc81, x0")
	for range 5 {
		m.Tick(1<<32 - 1)
	}
	retire(t, m, 22)
	// minstret: the three steps behind its write count; mcycle: those behind its own.
	for r, want := range map[int]int{
		5: 0x44444444, 6: 0x44444445, 7: 0x11111111, 8: 0x11111111,
		9: 0x3333333a, 10: 0x3333333b, 11: 0x22222222, 12: 0x22222222, 13: 1<<32 - 5, 14: 4,
	} {
		wantReg(t, m, r, want)
	}
}

// Every number, mode and way: whether it may be, and what it does.
func TestWhichCsrsMayBe(t *testing.T) {
	for _, mode := range modes() {
		first := entered(t, mode, []put{{api.CsrMcounteren, 5}, {api.CsrScounteren, 6}, {api.CsrMideleg, 0x222}, {api.CsrMscratch, 77}, {api.CsrSscratch, 88}}, "addi x3, x0, 1")
		retire(t, first, 1)
		for n := range 0x1000 {
			for op := api.Csrrw; op <= api.Csrrci; op++ {
				for _, field := range []int{0, 1} {
					// x1 is 0: written or not hangs on the field alone.
					i := api.Ins{Op: op, Rd: 3, Rs1: field, Imm: n, Len: 4}
					m := first.Copy()
					csrWord(t, m, i)
					want := isCsr(n) && n>>8&3 <= mode && !(n >= 0xc00 && (op%3 == 1 || field != 0))
					if n >= 0xc00 && n <= 0xcff {
						want = want && (mode == api.Mach || mode == api.Super && (n%32 == 0 || n%32 == 2) || mode == api.User && n%32 == 2)
					}
					var d api.Did
					if isCsr(n) {
						d = follows(t, m)
					} else {
						d = m.Step()
					}
					if want && d != (api.Did{Kind: api.Retired}) || !want && d != (api.Did{Kind: api.Exception, Cause: 2}) {
						t.Fatalf("mode %d: %s of %#x, field %d: %v", mode, api.Name(op), n, field, d)
					}
				}
			}
		}
	}
}

func TestWordsThatMayNotBeChangeNothing(t *testing.T) {
	for _, mode := range modes() {
		for _, i := range []api.Ins{
			{Op: api.Csrrw, Rd: 3, Rs1: 2, Imm: 0x7c0, Len: 4},
			{Op: api.Csrrs, Rd: 3, Rs1: 0, Imm: 0x301, Len: 4},
			{Op: api.Csrrw, Rd: 3, Rs1: 2, Imm: 0xf14, Len: 4},
			{Op: api.Csrrsi, Rd: 3, Rs1: 1, Imm: 0xc00, Len: 4},
			{Op: api.Csrrci, Rd: 3, Rs1: 31, Imm: 0xc82, Len: 4},
			{Op: api.Csrrw, Rd: 3, Rs1: 2, Imm: 0xb01, Len: 4},
			{Op: api.Csrrw, Rd: 3, Rs1: 2, Imm: 0x340, Len: 4},
			{Op: api.Csrrw, Rd: 3, Rs1: 2, Imm: 0xb00, Len: 4},
			{Op: api.Csrrw, Rd: 3, Rs1: 2, Imm: 0x140, Len: 4},
		} {
			if mode == api.Mach && (i.Imm == 0x301 || i.Imm == 0x340 || i.Imm == 0xb00 || i.Imm == 0x140) || mode == api.Super && i.Imm == 0x140 {
				continue
			}
			m := entered(t, mode, []put{{api.CsrMcounteren, 7}, {api.CsrScounteren, 7}}, set(2, 0x12345678), "addi x3, x0, 9", wordText(t, i))
			retire(t, m, 3)
			refused(t, m)
			wantReg(t, m, 3, 9)
		}
	}
}

// wordText tells the line that lays an instruction's word.
func wordText(t *testing.T, i api.Ins) string {
	t.Helper()
	return fmt.Sprintf(".word %d", wordAt(wordOf(t, i), 0))
}

func TestWhoMayReadTheCounters(t *testing.T) {
	for _, mode := range modes() {
		for machs := range 8 {
			for supers := range 8 {
				first := entered(t, mode, []put{{api.CsrMcounteren, machs}, {api.CsrScounteren, supers}})
				for k := range 64 {
					n := 0xc00 + k%32 + k/32*0x80
					m := first.Copy()
					csrWord(t, m, api.Ins{Op: api.Csrrs, Rd: 3, Imm: n, Len: 4})
					open := k%32 <= 2 && machs>>(k%32)&1 == 1
					if mode == api.User {
						open = open && supers>>(k%32)&1 == 1
					}
					if mode == api.Mach {
						open = true
					}
					want, _ := m.Csr(n)
					if !open {
						refused(t, m)
						continue
					}
					retire(t, m, 1)
					wantReg(t, m, 3, want)
				}
			}
		}
	}
}

func TestSatpAndTvm(t *testing.T) {
	for _, mode := range modes() {
		for _, status := range []int{0, tvm, tw | tsr} {
			for _, line := range []string{"csrrs x3, 0x180, x0", "csrrwi x3, 0x180, 21", "csrrci x3, 0x180, 0", "csrrw x3, 0x180, x1"} {
				m := entered(t, mode, []put{{api.CsrMstatus, status}, {api.CsrSatp, 0x1234}}, line)
				if mode == api.User || mode == api.Super && status == tvm {
					refused(t, m)
					wantCsr(t, m, api.CsrSatp, 0x1234)
					continue
				}
				retire(t, m, 1)
				wantReg(t, m, 3, 0x1234)
				want := map[byte]int{'s': 0x1234, 'c': 0x1234}[line[4]]
				if line[4:6] == "wi" {
					want = 21
				}
				wantCsr(t, m, api.CsrSatp, want)
			}
			// Other CSRs of mode S do not hang on TVM.
			m := entered(t, mode, []put{{api.CsrMstatus, status}, {api.CsrSscratch, 5}}, "csrrs x3, 0x140, x0")
			if mode != api.User {
				retire(t, m, 1)
				wantReg(t, m, 3, 5)
			}
		}
	}
}
