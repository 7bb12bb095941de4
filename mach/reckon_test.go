package mach_test

import (
	"fmt"
	"math/bits"
	"testing"

	"machine/api"
	"machine/isa"
	"machine/mach"
)

// wordOf tells the bytes of an instruction.
func wordOf(t *testing.T, i api.Ins) string {
	t.Helper()
	w, e := isa.Encode(i)
	if e != api.OK {
		t.Fatalf("Encode(%v): %v", i, e)
	}
	return api.Le(w, i.Len)
}

// after tells a machine that has carried out an instruction at place 64 with numbers in x1 and x2, which is to be retired.
func after(t *testing.T, i api.Ins, a int, b int) *mach.Machine {
	t.Helper()
	m := ready(t, i, a, b)
	retire(t, m, 1)
	return m
}

// ready tells the machine ahead of that instruction.
func ready(t *testing.T, i api.Ins, a int, b int) *mach.Machine {
	t.Helper()
	m := made(t, 256)
	lay(t, m, 0, setter(t, 1, a)+setter(t, 2, b)+wordOf(t, api.Ins{Op: api.Jal, Imm: 48, Len: 4}))
	lay(t, m, 64, wordOf(t, i))
	retire(t, m, 5)
	return m
}

// setter tells the words that bring a number into a register.
func setter(t *testing.T, r int, v int) string {
	t.Helper()
	low := int(int32(v<<20)) >> 20
	high := int(int32(v-low)) >> 12
	return wordOf(t, api.Ins{Op: api.Lui, Rd: r, Imm: high, Len: 4}) + wordOf(t, api.Ins{Op: api.Addi, Rd: r, Rs1: r, Imm: low, Len: 4})
}

// reckoned tells what an instruction of two numbers makes of them, by Go's own numbers of 32 and 64 bits.
func reckoned(op int, a uint32, b uint32) uint32 {
	one := map[bool]uint32{true: 1}
	switch op {
	case api.Add, api.Addi:
		return a + b
	case api.Sub:
		return a - b
	case api.Sll, api.Slli:
		return a << (b % 32)
	case api.Slt, api.Slti:
		return one[int32(a) < int32(b)]
	case api.Sltu, api.Sltiu:
		return one[a < b]
	case api.Xor, api.Xori:
		return a ^ b
	case api.Srl, api.Srli:
		return a >> (b % 32)
	case api.Sra, api.Srai:
		return uint32(int32(a) >> (b % 32))
	case api.Or, api.Ori:
		return a | b
	case api.And, api.Andi:
		return a & b
	case api.Mul:
		return a * b
	case api.Mulh:
		return uint32((int64(int32(a)) * int64(int32(b))) >> 32)
	case api.Mulhsu:
		return uint32((int64(int32(a)) * int64(b)) >> 32)
	case api.Mulhu:
		high, _ := bits.Mul32(a, b)
		return high
	}
	return divided(op, a, b)
}

func divided(op int, a uint32, b uint32) uint32 {
	overflow := a == 1<<31 && b == 1<<32-1
	switch {
	case b == 0 && (op == api.Div || op == api.Divu):
		return 1<<32 - 1
	case b == 0:
		return a
	case op == api.Divu:
		return a / b
	case op == api.Remu:
		return a % b
	case overflow && op == api.Div:
		return 1 << 31
	case overflow:
		return 0
	case op == api.Div:
		return uint32(int32(a) / int32(b))
	}
	return uint32(int32(a) % int32(b))
}

// registerOps are the instructions of the shape dst.
func registerOps() []int {
	ops := []int{}
	for op := api.Add; op <= api.And; op++ {
		ops = append(ops, op)
	}
	for op := api.Mul; op <= api.Remu; op++ {
		ops = append(ops, op)
	}
	return ops
}

func TestNumbersOfRegisters(t *testing.T) {
	for _, op := range registerOps() {
		for _, a := range edges() {
			for _, b := range edges() {
				m := after(t, api.Ins{Op: op, Rd: 3, Rs1: 1, Rs2: 2, Len: 4}, a, b)
				want := int(reckoned(op, uint32(a), uint32(b)))
				if got := reg(t, m, 3); got != want {
					t.Errorf("%s of %#x and %#x: %#x, want %#x", api.Name(op), a, b, got, want)
				}
				wantReg(t, m, 1, a)
				wantReg(t, m, 2, b)
				wantPc(t, m, base+68)
			}
		}
	}
}

func TestNumbersOfRegistersByChance(t *testing.T) {
	seed := uint64(7)
	for range 20000 {
		seed = seed*6364136223846793005 + 1442695040888963407
		op := registerOps()[int(seed>>33)%18]
		seed = seed*6364136223846793005 + 1442695040888963407
		a := int(seed >> 32 >> (seed >> 20 % 32))
		seed = seed*6364136223846793005 + 1442695040888963407
		b := int(seed >> 32 >> (seed >> 20 % 32))
		m := after(t, api.Ins{Op: op, Rd: 3, Rs1: 1, Rs2: 2, Len: 4}, a, b)
		want := int(reckoned(op, uint32(a), uint32(b)))
		if got := reg(t, m, 3); got != want {
			t.Errorf("%s of %#x and %#x: %#x, want %#x", api.Name(op), a, b, got, want)
		}
	}
}

func TestNumbersOfImmediates(t *testing.T) {
	for op := api.Addi; op <= api.Srai; op++ {
		imms := []int{-2048, -2047, -1024, -5, -1, 0, 1, 2, 5, 1023, 1024, 2046, 2047}
		if op >= api.Slli {
			imms = []int{0, 1, 2, 7, 15, 16, 30, 31}
		}
		for _, a := range edges() {
			for _, imm := range imms {
				m := after(t, api.Ins{Op: op, Rd: 3, Rs1: 1, Imm: imm, Len: 4}, a, 0)
				want := int(reckoned(op, uint32(a), uint32(imm)))
				if got := reg(t, m, 3); got != want {
					t.Errorf("%s of %#x and %d: %#x, want %#x", api.Name(op), a, imm, got, want)
				}
				wantPc(t, m, base+68)
			}
		}
	}
}

// Example 8, and what the document tells of nought and -2^31.
func TestProductsAndQuotients(t *testing.T) {
	for _, c := range []struct{ op, a, b, want int }{
		{api.Mul, 1<<31 - 1, 1 << 31, 0x80000000},
		{api.Mulh, 1<<31 - 1, 1 << 31, 0xc0000000},
		{api.Mulhu, 1<<32 - 1, 1<<32 - 1, 0xfffffffe},
		{api.Mulhsu, 1<<32 - 1, 1<<32 - 1, 0xffffffff},
		{api.Mulhsu, 1 << 31, 1<<32 - 1, 0x80000000},
		{api.Div, 1 << 31, 1<<32 - 1, 0x80000000},
		{api.Rem, 1 << 31, 1<<32 - 1, 0},
		{api.Div, 1<<31 - 1, 0, 0xffffffff},
		{api.Div, 0, 0, 0xffffffff},
		{api.Divu, 1 << 31, 0, 0xffffffff},
		{api.Rem, 1<<32 - 7, 0, 1<<32 - 7},
		{api.Remu, 1<<32 - 7, 0, 1<<32 - 7},
		{api.Div, 1<<32 - 7, 2, 1<<32 - 3},
		{api.Rem, 1<<32 - 7, 2, 1<<32 - 1},
		{api.Rem, 7, 1<<32 - 2, 1},
		{api.Div, 7, 1<<32 - 2, 1<<32 - 3},
	} {
		m := after(t, api.Ins{Op: c.op, Rd: 3, Rs1: 1, Rs2: 2, Len: 4}, c.a, c.b)
		if got := reg(t, m, 3); got != c.want {
			t.Errorf("%s of %#x and %#x: %#x, want %#x", api.Name(c.op), c.a, c.b, got, c.want)
		}
	}
}

func TestUpperImmediates(t *testing.T) {
	for _, c := range []struct{ op, imm, want int }{
		{api.Lui, 0, 0},
		{api.Lui, 1, 0x1000},
		{api.Lui, -1, 0xfffff000},
		{api.Lui, 1<<19 - 1, 0x7ffff000},
		{api.Lui, -1 << 19, 0x80000000},
		{api.Auipc, 0, base + 64},
		{api.Auipc, 1, base + 64 + 0x1000},
		{api.Auipc, -1, base + 64 - 0x1000},
		{api.Auipc, 1<<19 - 1, 0xfffff040},
		{api.Auipc, -1 << 19, 0x40},
	} {
		m := after(t, api.Ins{Op: c.op, Rd: 1, Imm: c.imm, Len: 4}, 0x55555555, 0)
		if got := reg(t, m, 1); got != c.want {
			t.Errorf("%s %d: %#x, want %#x", api.Name(c.op), c.imm, got, c.want)
		}
		wantPc(t, m, base+68)
	}
}

func TestJumps(t *testing.T) {
	for _, c := range []struct {
		i    api.Ins
		a    int
		pc   int
		link int
	}{
		{api.Ins{Op: api.Jal, Rd: 5, Imm: 8, Len: 4}, 0, base + 72, base + 68},
		{api.Ins{Op: api.Jal, Rd: 5, Imm: 0, Len: 4}, 0, base + 64, base + 68},
		{api.Ins{Op: api.Jal, Rd: 5, Imm: 2, Len: 4}, 0, base + 66, base + 68},
		{api.Ins{Op: api.Jal, Rd: 5, Imm: -66, Len: 4}, 0, base - 2, base + 68},
		{api.Ins{Op: api.Jal, Rd: 5, Imm: 1<<20 - 2, Len: 4}, 0, base + 64 + 1<<20 - 2, base + 68},
		{api.Ins{Op: api.Jal, Rd: 5, Imm: -1 << 20, Len: 4}, 0, base + 64 - 1<<20, base + 68},
		{api.Ins{Op: api.Jal, Rd: 0, Imm: 8, Len: 4}, 0, base + 72, 0},
		{api.Ins{Op: api.Jal, Imm: 8, Len: 2}, 0, base + 72, 0},
		{api.Ins{Op: api.Jalr, Rd: 5, Rs1: 1, Len: 4}, base + 100, base + 100, base + 68},
		{api.Ins{Op: api.Jalr, Rd: 5, Rs1: 1, Imm: 7, Len: 4}, base + 100, base + 106, base + 68},
		{api.Ins{Op: api.Jalr, Rd: 5, Rs1: 1, Imm: -1, Len: 4}, base + 100, base + 98, base + 68},
		{api.Ins{Op: api.Jalr, Rd: 5, Rs1: 1, Imm: 1, Len: 4}, base + 99, base + 100, base + 68},
		{api.Ins{Op: api.Jalr, Rd: 5, Rs1: 1, Imm: 2, Len: 4}, base + 98, base + 100, base + 68},
		{api.Ins{Op: api.Jalr, Rd: 5, Rs1: 1, Imm: 1, Len: 4}, 1<<32 - 1, 0, base + 68},
		{api.Ins{Op: api.Jalr, Rd: 5, Rs1: 1, Imm: 2047, Len: 4}, 1<<32 - 1, 2046, base + 68},
		{api.Ins{Op: api.Jalr, Rd: 5, Rs1: 1, Imm: -2048, Len: 4}, 0, 1<<32 - 2048, base + 68},
		{api.Ins{Op: api.Jalr, Rd: 5, Rs1: 0, Imm: -2, Len: 4}, 0, 1<<32 - 2, base + 68},
		{api.Ins{Op: api.Jalr, Rd: 0, Rs1: 1, Len: 2}, base + 101, base + 100, 0},
	} {
		m := after(t, c.i, c.a, 0)
		if m.Pc() != c.pc || reg(t, m, 5) != c.link {
			t.Errorf("%v, x1 %#x: pc %#x, x5 %#x, want %#x, %#x", c.i, c.a, m.Pc(), reg(t, m, 5), c.pc, c.link)
		}
		if c.i.Op == api.Jalr {
			wantReg(t, m, 1, c.a)
		}
	}
	// Behind a word of two bytes the link is two further on.
	m := after(t, api.Ins{Op: api.Jal, Rd: 1, Imm: -20, Len: 2}, 5, 0)
	wantReg(t, m, 1, base+66)
	wantPc(t, m, base+44)
	m = after(t, api.Ins{Op: api.Jalr, Rd: 1, Rs1: 2, Len: 2}, 5, base+7)
	wantReg(t, m, 1, base+66)
	wantPc(t, m, base+6)
	// rs1 is what it was before rd is written.
	m = after(t, api.Ins{Op: api.Jalr, Rd: 1, Rs1: 1, Imm: 4, Len: 4}, base+20, 0)
	wantReg(t, m, 1, base+68)
	wantPc(t, m, base+24)
	m = after(t, api.Ins{Op: api.Jalr, Rd: 1, Rs1: 1, Len: 2}, base+20, 0)
	wantReg(t, m, 1, base+66)
	wantPc(t, m, base+20)
}

// taken tells whether a branch is taken.
func taken(op int, a uint32, b uint32) bool {
	switch op {
	case api.Beq:
		return a == b
	case api.Bne:
		return a != b
	case api.Blt:
		return int32(a) < int32(b)
	case api.Bge:
		return int32(a) >= int32(b)
	case api.Bltu:
		return a < b
	}
	return a >= b
}

func TestBranches(t *testing.T) {
	far := []int{8, -8, 0, 2, 4094, -4096}
	n := 0
	for op := api.Beq; op <= api.Bgeu; op++ {
		for _, a := range edges() {
			for _, b := range edges() {
				n++
				imm := far[n%len(far)]
				m := after(t, api.Ins{Op: op, Rs1: 1, Rs2: 2, Imm: imm, Len: 4}, a, b)
				want := base + 68
				if taken(op, uint32(a), uint32(b)) {
					want = base + 64 + imm
				}
				if m.Pc() != want {
					t.Errorf("%s %#x, %#x, %d: pc %#x, want %#x", api.Name(op), a, b, imm, m.Pc(), want)
				}
				wantReg(t, m, 1, a)
				wantReg(t, m, 2, b)
			}
		}
	}
}

func TestBranchesOfTwoBytes(t *testing.T) {
	for _, c := range []struct{ op, a, pc int }{
		{api.Beq, 0, base + 10 - 6}, {api.Beq, 1, base + 12}, {api.Bne, 0, base + 12}, {api.Bne, 1 << 31, base + 10 - 6},
	} {
		m := booted(t, 64, set(8, c.a), "c.addi x9, x0, 1", fmt.Sprintf("c.%s x8, x0, -6", api.Name(c.op)))
		retire(t, m, 4)
		wantPc(t, m, c.pc)
	}
}

func TestShortWordsDoAsLongOnes(t *testing.T) {
	for _, line := range []string{
		"addi x8, x2, 1020", "addi x2, x2, -512", "addi x9, x9, -32", "addi x9, x0, 31", "lui x9, -32", "lui x9, 31",
		"srli x9, x9, 31", "srai x9, x9, 31", "srai x9, x9, 1", "andi x9, x9, -32", "sub x9, x9, x10", "xor x9, x9, x10", "or x9, x9, x10", "and x9, x9, x10",
		"slli x9, x9, 31", "add x9, x0, x10", "add x9, x9, x10", "add x9, x9, x9", "slli x0, x0, 5", "addi x0, x0, 0", "lw x9, 124(x11)", "sw x9, 4(x11)", "lw x10, 252(x2)", "sw x10, 252(x2)",
	} {
		begin := []string{set(2, base+128), set(9, 0x89abcdef), set(10, 0x76543210), set(11, base+256)}
		long := booted(t, 1024, append(begin, line)...)
		short := booted(t, 1024, append(begin, "c."+line)...)
		for _, m := range []*mach.Machine{long, short} {
			lay(t, m, 128, image(t, ".word 0x12345678"))
			lay(t, m, 256+124, image(t, ".word 0x9abcdef0"))
			retire(t, m, 9)
		}
		wantPc(t, long, base+36)
		wantPc(t, short, base+34)
		if long.Show()[4:] != short.Show()[4:] || peek(t, long, 64, 960) != peek(t, short, 64, 960) {
			t.Errorf("c.%s does otherwise than %s", line, line)
		}
	}
}

func TestRdMayBeWhatIsRead(t *testing.T) {
	for _, op := range registerOps() {
		a, b := 0x89abcdef, 0x7654321
		m := after(t, api.Ins{Op: op, Rd: 1, Rs1: 1, Rs2: 2, Len: 4}, a, b)
		wantReg(t, m, 1, int(reckoned(op, uint32(a), uint32(b))))
		m = after(t, api.Ins{Op: op, Rd: 2, Rs1: 1, Rs2: 2, Len: 4}, a, b)
		wantReg(t, m, 2, int(reckoned(op, uint32(a), uint32(b))))
		m = after(t, api.Ins{Op: op, Rd: 1, Rs1: 1, Rs2: 1, Len: 4}, a, b)
		wantReg(t, m, 1, int(reckoned(op, uint32(a), uint32(a))))
	}
}

func TestNothingIsWrittenToX0(t *testing.T) {
	ins := []api.Ins{{Op: api.Lui, Imm: -1, Len: 4}, {Op: api.Auipc, Imm: 1, Len: 4}, {Op: api.Jal, Imm: 4, Len: 4}, {Op: api.Jalr, Rs1: 1, Len: 4}}
	for op := api.Lb; op <= api.Lhu; op++ {
		ins = append(ins, api.Ins{Op: op, Rs1: 1, Len: 4})
	}
	for op := api.Addi; op <= api.Srai; op++ {
		ins = append(ins, api.Ins{Op: op, Rs1: 1, Imm: 3, Len: 4})
	}
	for _, op := range registerOps() {
		ins = append(ins, api.Ins{Op: op, Rs1: 1, Rs2: 2, Len: 4})
	}
	ins = append(ins, api.Ins{Op: api.LrW, Rs1: 1, Len: 4})
	for op := api.ScW; op <= api.AmoMaxu; op++ {
		ins = append(ins, api.Ins{Op: op, Rs1: 1, Rs2: 2, Len: 4})
	}
	for _, i := range ins {
		m := after(t, i, base+128, 0x7fffffff)
		wantReg(t, m, 0, 0)
		if got := m.Show()[4:8]; got != four(0) {
			t.Errorf("%s: Show tells % x of x0", api.Name(i.Op), got)
		}
		// And it reads 0 from the next instruction on.
		lay(t, m, m.Pc()-base, wordOf(t, api.Ins{Op: api.Add, Rd: 4, Len: 4}))
		retire(t, m, 1)
		wantReg(t, m, 4, 0)
		if t.Failed() {
			t.Fatalf("%s", api.Name(i.Op))
		}
	}
}

func TestFencesDoNothing(t *testing.T) {
	for _, op := range []int{api.Fence, api.FenceI} {
		for _, imm := range []int{0, 0x0ff, -1, 2047, -2048} {
			i := api.Ins{Op: op, Rd: 1, Rs1: 2, Imm: imm, Len: 4}
			m := ready(t, i, 0x1234, base+128)
			ram := peek(t, m, 0, 256)
			before := m.Show()
			retire(t, m, 1)
			wantPc(t, m, base+68)
			wantRam(t, m, 0, ram)
			want := four(base+68) + before[4:]
			// The counters are the last but for the devices.
			if got := m.Show(); got[:216] != want[:216] || got[232:] != want[232:] {
				t.Errorf("%v changes something", i)
			}
		}
	}
}

func TestCallsAndBreaks(t *testing.T) {
	m := ready(t, api.Ins{Op: api.Ecall, Len: 4}, 1, 2)
	meets(t, m, 11, 0)
	m = ready(t, api.Ins{Op: api.Ebreak, Len: 4}, 1, 2)
	meets(t, m, 3, base+64)
	m = ready(t, api.Ins{Op: api.Ebreak, Len: 2}, 1, 2)
	meets(t, m, 3, base+64)
	wantReg(t, m, 1, 1)
	wantReg(t, m, 2, 2)
	wantPc(t, m, 0)
}
