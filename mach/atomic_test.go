package mach_test

import (
	"testing"

	"machine/api"
)

// atomicAt is the place of the word that these tests reserve and modify.
const atomicAt = 96

// modifiedWord tells what an amo instruction makes of the word that was there and of rs2.
func modifiedWord(op int, was uint32, v uint32) uint32 {
	switch op {
	case api.AmoSwap:
		return v
	case api.AmoAdd:
		return was + v
	case api.AmoXor:
		return was ^ v
	case api.AmoAnd:
		return was & v
	case api.AmoOr:
		return was | v
	case api.AmoMin:
		return uint32(min(int32(was), int32(v)))
	case api.AmoMax:
		return uint32(max(int32(was), int32(v)))
	case api.AmoMinu:
		return min(was, v)
	}
	return max(was, v)
}

func TestModifies(t *testing.T) {
	n := 0
	for op := api.AmoSwap; op <= api.AmoMaxu; op++ {
		for _, was := range edges() {
			for _, v := range edges() {
				n++
				m := filled(t, 128, api.Ins{Op: op, Rd: 3, Rs1: 1, Rs2: 2, Imm: n % 4, Len: 4}, base+atomicAt, v)
				lay(t, m, atomicAt, four(was))
				ram := peek(t, m, 0, 128)
				retire(t, m, 1)
				want := int(modifiedWord(op, uint32(was), uint32(v)))
				if got := peek(t, m, 0, 128); got != ram[:atomicAt]+four(want)+ram[atomicAt+4:] {
					t.Errorf("%s of %#x and %#x: % x, want %#x", api.Name(op), was, v, got[atomicAt:atomicAt+4], want)
				}
				wantReg(t, m, 3, was)
				wantReg(t, m, 2, v)
				wantPc(t, m, base+20)
				wantUnreserved(t, m)
			}
		}
	}
}

func TestModifiesWithRdAsOperand(t *testing.T) {
	for op := api.AmoSwap; op <= api.AmoMaxu; op++ {
		m := filled(t, 128, api.Ins{Op: op, Rd: 2, Rs1: 1, Rs2: 2, Len: 4}, base+atomicAt, 0x70f0f0f0)
		lay(t, m, atomicAt, four(0x8ff00ff0))
		retire(t, m, 1)
		wantReg(t, m, 2, 0x8ff00ff0)
		wantRam(t, m, atomicAt, four(int(modifiedWord(op, 0x8ff00ff0, 0x70f0f0f0))))
		m = filled(t, 128, api.Ins{Op: op, Rd: 1, Rs1: 1, Rs2: 1, Len: 4}, base+atomicAt, 0)
		lay(t, m, atomicAt, four(77))
		retire(t, m, 1)
		wantReg(t, m, 1, 77)
		wantRam(t, m, atomicAt, four(int(modifiedWord(op, 77, base+atomicAt))))
	}
}

func TestAtomicsMeetExceptions(t *testing.T) {
	for op := api.LrW; op <= api.AmoMaxu; op++ {
		i, align, access := api.Ins{Op: op, Rd: 3, Rs1: 1, Rs2: 2, Len: 4}, 6, 7
		if op == api.LrW {
			i, align, access = api.Ins{Op: op, Rd: 3, Rs1: 1, Len: 4}, 4, 5
		}
		// Not a multiple of 4: ahead of where it lies.
		for _, at := range []int{base + atomicAt, base + 124, base + 128, 0, api.TimerBase, api.PortBase, 0xfffffffc} {
			for k := 1; k <= 3; k++ {
				faults(t, 128, i, at+k, align, at+k)
			}
		}
		for _, at := range []int{base + 128, base - 4, 0, api.TimerBase, api.TimerBase + 0x4000, api.TimerBase + 0xbff8, api.PortBase, 0xfffffffc} {
			faults(t, 128, i, at, access, at)
		}
		// Words that RAM has only the beginning of.
		for _, size := range []int{129, 130, 131} {
			faults(t, size, i, base+128, access, base+128)
		}
		m := filled(t, 132, i, base+128, 0)
		retire(t, m, 1)
	}
}

func TestReservedLoad(t *testing.T) {
	for imm := range 4 {
		m := filled(t, 128, api.Ins{Op: api.LrW, Rd: 3, Rs1: 1, Imm: imm, Len: 4}, base+atomicAt, 0)
		ram := peek(t, m, 0, 128)
		wantUnreserved(t, m)
		retire(t, m, 1)
		wantReg(t, m, 3, loaded(api.Lw, ram[atomicAt:]))
		wantReserved(t, m, base+atomicAt)
		wantRam(t, m, 0, ram)
		wantPc(t, m, base+20)
	}
	m := filled(t, 128, api.Ins{Op: api.LrW, Rd: 1, Rs1: 1, Len: 4}, base+atomicAt, 0)
	lay(t, m, atomicAt, four(0x80000000))
	retire(t, m, 1)
	wantReg(t, m, 1, 0x80000000)
	wantReserved(t, m, base+atomicAt)
}

// Each play begins with x1 the address of a word, x2 that of the next, x3 a number; x4 and x5 tell how sc.w went.
func TestConditionalStore(t *testing.T) {
	for _, c := range []struct {
		name   string
		lines  []string
		x4, x5 int
		words  [2]int
	}{
		{"reserved", []string{"lr.w x9, x1, 0", "sc.w x4, x3, x1, 0"}, 0, 7, [2]int{33, 22}},
		{"with aq and rl", []string{"lr.w x9, x1, 3", "sc.w x4, x3, x1, 3"}, 0, 7, [2]int{33, 22}},
		{"not reserved", []string{"sc.w x4, x3, x1, 0"}, 1, 7, [2]int{11, 22}},
		{"once alone", []string{"lr.w x9, x1, 0", "sc.w x4, x3, x1, 0", "sc.w x5, x9, x1, 0"}, 0, 1, [2]int{33, 22}},
		{"another word is reserved", []string{"lr.w x9, x1, 0", "sc.w x4, x3, x2, 0"}, 1, 7, [2]int{11, 22}},
		{"a failure ends it too", []string{"lr.w x9, x1, 0", "sc.w x4, x3, x2, 0", "sc.w x5, x3, x1, 0"}, 1, 1, [2]int{11, 22}},
		{"the last reserved counts", []string{"lr.w x9, x1, 0", "lr.w x9, x2, 0", "sc.w x4, x3, x2, 0"}, 0, 7, [2]int{11, 33}},
		{"the first is gone", []string{"lr.w x9, x1, 0", "lr.w x9, x2, 0", "sc.w x4, x3, x1, 0"}, 1, 7, [2]int{11, 22}},
		{"a store of a word does not end it", []string{"lr.w x9, x1, 0", "sw x0, 0(x1)", "sc.w x4, x3, x1, 0"}, 0, 7, [2]int{33, 22}},
		{"nor a store of a byte", []string{"lr.w x9, x1, 0", "sb x0, 3(x1)", "sc.w x4, x3, x1, 0"}, 0, 7, [2]int{33, 22}},
		{"nor an amo", []string{"lr.w x9, x1, 0", "amoadd.w x9, x3, x1, 0", "sc.w x4, x3, x1, 0"}, 0, 7, [2]int{33, 22}},
		{"nor a load, a branch, a fence", []string{"lr.w x9, x1, 0", "lw x9, 0(x1)", "beq x0, x0, 4", "fence.i x0, x0, 0", "sc.w x4, x3, x1, 0"}, 0, 7, [2]int{33, 22}},
		{"rd as rs2", []string{"addi x4, x0, 44", "lr.w x9, x1, 0", "sc.w x4, x4, x1, 0"}, 0, 7, [2]int{44, 22}},
		{"rd as rs2, failing", []string{"addi x4, x0, 44", "sc.w x4, x4, x1, 0"}, 1, 7, [2]int{11, 22}},
		{"its own address", []string{"lr.w x9, x1, 0", "sc.w x4, x1, x1, 0"}, 0, 7, [2]int{base + 512, 22}},
	} {
		begin := image(t, set(1, base+512), set(2, base+516), "addi x3, x0, 33", "addi x5, x0, 7")
		body := image(t, c.lines...)
		m := made(t, 1024)
		lay(t, m, 0, begin+body)
		lay(t, m, 512, four(11, 22))
		retire(t, m, (len(begin)+len(body))/4)
		if reg(t, m, 4) != c.x4 || reg(t, m, 5) != c.x5 {
			t.Errorf("%s: x4 %d, x5 %d, want %d, %d", c.name, reg(t, m, 4), reg(t, m, 5), c.x4, c.x5)
		}
		if got := peek(t, m, 512, 8); got != four(c.words[0], c.words[1]) {
			t.Errorf("%s: % x, want %d", c.name, got, c.words)
		}
		wantUnreserved(t, m)
	}
}

func TestExceptionsDoNotEndAReservation(t *testing.T) {
	for _, line := range []string{"ebreak", "ecall", ".word 0xffffffff", "lw x9, 0(x0)", "sw x9, 0(x0)", "sc.w x9, x3, x0, 0", "sc.w x9, x3, x4, 0", "amoadd.w x9, x3, x4, 0", "lr.w x9, x4, 0", "lr.w x9, x0, 0"} {
		m := booted(t, 1024, set(1, base+512), set(4, base+513), "lr.w x9, x1, 0", line)
		retire(t, m, 5)
		wantReserved(t, m, base+512)
		if d := m.Step(); d.Kind != api.Exception {
			t.Errorf("%s: %v", line, d)
		}
		wantReserved(t, m, base+512)
		if d := m.Step(); d != (api.Did{Kind: api.Exception, Cause: 1}) {
			t.Errorf("behind %s: %v", line, d)
		}
		wantReserved(t, m, base+512)
		m.Reset()
		wantUnreserved(t, m)
	}
}

func TestLoadBetweenReservedLoadAndConditionalStore(t *testing.T) {
	for _, c := range []struct {
		off  int
		n    int
		want int
	}{{508, 4, 0}, {516, 4, 0}, {512, 0, 0}, {513, 0, 0}, {512, 4, 1}, {515, 1, 1}, {509, 4, 1}} {
		m := booted(t, 1024, set(1, base+512), "lr.w x9, x1, 0", "addi x4, x0, 9", "sc.w x4, x1, x1, 0")
		retire(t, m, 4)
		lay(t, m, c.off, peek(t, m, c.off, c.n))
		retire(t, m, 1)
		wantReg(t, m, 4, c.want)
	}
}
