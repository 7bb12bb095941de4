package isa_test

import (
	"math"
	"strings"
	"testing"

	"machine/api"
	"machine/isa"
)

func checkDecode(t *testing.T, w int, want api.Ins) {
	t.Helper()
	if i, e := isa.Decode(w); i != want || e != api.OK {
		t.Errorf("P3: Decode(%#x) = %+v, %v, want %+v", w, i, e, want)
	}
}

func checkEncode(t *testing.T, i api.Ins, want int) {
	t.Helper()
	if w, e := isa.Encode(i); w != want || e != api.OK {
		t.Errorf("P4: Encode(%+v) = %#x, %v, want %#x", i, w, e, want)
	}
}

func checkNoWord(t *testing.T, i api.Ins) {
	t.Helper()
	if w, e := isa.Encode(i); w != 0 || e != api.ErrIns {
		t.Errorf("P4: Encode(%+v) = %#x, %v, want ErrIns", i, w, e)
	}
}

func TestDecodeEveryShortWord(t *testing.T) {
	rows := shortRows(t)
	for w := 0; w < 1<<16; w++ {
		if w&3 != 3 {
			checkDecode(t, w, meaning(t, rows, w))
		}
	}
}

// longSamples tells words of 32 bits: of every row some that fit it, and those that lack one bit of doing so.
func longSamples(t *testing.T) []int {
	words := []int{}
	seed := 1
	for _, r := range longRows(t) {
		fixed := 0
		letters := 0
		for _, c := range r.picture {
			fixed *= 2
			letters *= 2
			switch c {
			case '0':
			case '1':
				fixed++
			default:
				letters++
			}
		}
		words = append(words, fixed, fixed|letters)
		for k := 0; k < 32; k++ {
			words = append(words, fixed^1<<k, (fixed|letters)^1<<k)
			seed = (seed*1103515245 + 12345) & 0x7fffffff
			words = append(words, fixed|letters&(seed*3))
		}
	}
	for k := 0; k < 3000; k++ {
		seed = (seed*1103515245 + 12345) & 0x7fffffff
		words = append(words, (seed*5)&0xffffffff|3)
	}
	long := []int{}
	for _, w := range words {
		if w&3 == 3 {
			long = append(long, w)
		}
	}
	return long
}

func TestDecodeLongWords(t *testing.T) {
	rows := longRows(t)
	if len(rows) != api.NumOps {
		t.Fatalf("%d rows", len(rows))
	}
	for _, w := range longSamples(t) {
		checkDecode(t, w, meaning(t, rows, w))
	}
}

func TestShapesAreTheTables(t *testing.T) {
	for _, r := range longRows(t) {
		if shape := strings.Trim(r.shape, "-"); shape != api.Shape(r.op) {
			t.Errorf("shape of %s: %q, want %q", r.name, api.Shape(r.op), shape)
		}
	}
}

func TestDecodeByHand(t *testing.T) {
	for _, c := range []struct {
		w    int
		want api.Ins
	}{
		{0xfff00093, api.Ins{Op: api.Addi, Rd: 1, Imm: -1, Len: 4}},
		{0x4501, api.Ins{Op: api.Addi, Rd: 10, Len: 2}},
		{0xffffffff, api.Ins{Len: 4}},
		{0x80000fb7, api.Ins{Op: api.Lui, Rd: 31, Imm: -524288, Len: 4}},
		{0x7ffff0b7, api.Ins{Op: api.Lui, Rd: 1, Imm: 524287, Len: 4}},
		{0x800000ef, api.Ins{Op: api.Jal, Rd: 1, Imm: -1048576, Len: 4}},
		{0x7ffff0ef, api.Ins{Op: api.Jal, Rd: 1, Imm: 1048574, Len: 4}},
		{0x80208063, api.Ins{Op: api.Beq, Rs1: 1, Rs2: 2, Imm: -4096, Len: 4}},
		{0x7e208fe3, api.Ins{Op: api.Beq, Rs1: 1, Rs2: 2, Imm: 4094, Len: 4}},
		{0x80512023, api.Ins{Op: api.Sw, Rs1: 2, Rs2: 5, Imm: -2048, Len: 4}},
		{0xfff59073, api.Ins{Op: api.Csrrw, Rs1: 11, Imm: 4095, Len: 4}},
		{0x04c5a52f, api.Ins{Op: api.AmoAdd, Rd: 10, Rs1: 11, Rs2: 12, Imm: 2, Len: 4}},
		{0x1405a52f, api.Ins{Op: api.LrW, Rd: 10, Rs1: 11, Imm: 2, Len: 4}},
		{0x1415a52f, api.Ins{Len: 4}}, // lr.w with an rs2
		{0x02059593, api.Ins{Len: 4}}, // slli by 32
		{0x00000173, api.Ins{Len: 4}}, // ecall with an rd
		{0xffff, api.Ins{Len: 4}},
		{0xfffe, api.Ins{Len: 2}},
		{0xdffe, api.Ins{Op: api.Sw, Rs1: 2, Rs2: 31, Imm: 252, Len: 2}},
		{0x3, api.Ins{Op: api.Lb, Len: 4}},
		{0x0, api.Ins{Len: 2}},
		{0x001c, api.Ins{Len: 2}}, // addi of x2 with immediate 0
		{0x0020, api.Ins{Op: api.Addi, Rd: 8, Rs1: 2, Imm: 8, Len: 2}},
		{0x6105, api.Ins{Op: api.Addi, Rd: 2, Rs1: 2, Imm: 32, Len: 2}},
		{0x7101, api.Ins{Op: api.Addi, Rd: 2, Rs1: 2, Imm: -512, Len: 2}},
		{0x6101, api.Ins{Len: 2}}, // the same with immediate 0
		{0x6081, api.Ins{Len: 2}}, // lui with immediate 0
		{0x6005, api.Ins{Op: api.Lui, Imm: 1, Len: 2}},
		{0x70fd, api.Ins{Op: api.Lui, Rd: 1, Imm: -1, Len: 2}},
		{0x8082, api.Ins{Op: api.Jalr, Rs1: 1, Len: 2}},
		{0x9082, api.Ins{Op: api.Jalr, Rd: 1, Rs1: 1, Len: 2}},
		{0x8002, api.Ins{Len: 2}}, // jalr by x0
		{0x9002, api.Ins{Op: api.Ebreak, Len: 2}},
		{0x4002, api.Ins{Len: 2}}, // lw to x0
		{0x40fe, api.Ins{Op: api.Lw, Rd: 1, Rs1: 2, Imm: 220, Len: 2}},
		{0x3001, api.Ins{Op: api.Jal, Rd: 1, Imm: -2048, Len: 2}},
		{0xaffd, api.Ins{Op: api.Jal, Imm: 2046, Len: 2}},
		{0xd001, api.Ins{Op: api.Beq, Rs1: 8, Imm: -256, Len: 2}},
		{0xeffd, api.Ins{Op: api.Bne, Rs1: 15, Imm: 254, Len: 2}},
	} {
		checkDecode(t, c.w, c.want)
	}
}

func TestDecodeTakesWordsAlone(t *testing.T) {
	for _, w := range []int{-1, -4, -65533, 65536, 65537, 65538, 0x80000000, 0xfffffffe, 1 << 32, 1<<32 + 3, 1<<33 - 1, math.MaxInt, math.MinInt, math.MinInt + 3} {
		if i, e := isa.Decode(w); i != (api.Ins{}) || e != api.ErrArg {
			t.Errorf("P3: Decode(%#x) = %+v, %v, want ErrArg", w, i, e)
		}
	}
}

func TestEncodeTheLeastShortWord(t *testing.T) {
	rows := shortRows(t)
	least := map[api.Ins]int{}
	shared := 0
	for w := 0; w < 1<<16; w++ {
		if w&3 == 3 {
			continue
		}
		i := meaning(t, rows, w)
		if i.Op == api.Illegal {
			continue
		}
		if _, known := least[i]; known {
			shared++
		} else {
			least[i] = w
		}
	}
	if shared == 0 {
		t.Fatal("no instruction has two words")
	}
	for i, w := range least {
		checkEncode(t, i, w)
		for _, near := range neighbours(i) {
			if v, known := least[near]; known {
				checkEncode(t, near, v)
			} else if near.Len == 2 {
				checkNoWord(t, near)
			}
		}
	}
}

// neighbours tells instructions that differ from i in one field.
func neighbours(i api.Ins) []api.Ins {
	list := []api.Ins{}
	for _, d := range []int{-32, -8, -1, 1, 8, 32, 256, 1 << 32, math.MinInt} {
		for _, n := range []api.Ins{{Op: d}, {Rd: d}, {Rs1: d}, {Rs2: d}, {Imm: d}} {
			list = append(list, api.Ins{Op: i.Op + n.Op, Rd: i.Rd + n.Rd, Rs1: i.Rs1 + n.Rs1, Rs2: i.Rs2 + n.Rs2, Imm: i.Imm + n.Imm, Len: i.Len})
		}
	}
	return list
}

func TestEncodeByHand(t *testing.T) {
	checkEncode(t, api.Ins{Op: api.Addi, Rd: 1, Imm: -1, Len: 4}, 0xfff00093)
	checkEncode(t, api.Ins{Op: api.Addi, Imm: 5, Len: 2}, 0x0015)                  // and 0x4015
	checkEncode(t, api.Ins{Op: api.Addi, Rd: 2, Rs1: 2, Imm: 16, Len: 2}, 0x0141)  // and 0x6141
	checkEncode(t, api.Ins{Op: api.Addi, Rd: 2, Rs1: 2, Imm: 496, Len: 2}, 0x617d) // alone
	checkEncode(t, api.Ins{Op: api.Add, Rs2: 3, Len: 2}, 0x800e)                   // and 0x900e
	checkNoWord(t, api.Ins{Op: api.Addi, Imm: 2048, Len: 4})
	checkNoWord(t, api.Ins{Len: 4})
	checkNoWord(t, api.Ins{Len: 2})
}

func TestEncodeLongWords(t *testing.T) {
	rows := longRows(t)
	for _, w := range longSamples(t) {
		i := meaning(t, rows, w)
		if i.Op == api.Illegal {
			checkNoWord(t, i)
		} else {
			checkEncode(t, i, w)
		}
	}
}

// What words of 32 bits can hold, by the numbers of the instructions: said here without the pictures.
var holds = []struct {
	first, last       int
	rd, rs1, rs2      bool
	least, most, step int
}{
	{api.Lui, api.Auipc, true, false, false, -524288, 524287, 1},
	{api.Jal, api.Jal, true, false, false, -1048576, 1048574, 2},
	{api.Jalr, api.Jalr, true, true, false, -2048, 2047, 1},
	{api.Beq, api.Bgeu, false, true, true, -4096, 4094, 2},
	{api.Lb, api.Lhu, true, true, false, -2048, 2047, 1},
	{api.Sb, api.Sw, false, true, true, -2048, 2047, 1},
	{api.Addi, api.Andi, true, true, false, -2048, 2047, 1},
	{api.Slli, api.Srai, true, true, false, 0, 31, 1},
	{api.Add, api.And, true, true, true, 0, 0, 1},
	{api.Fence, api.FenceI, true, true, false, -2048, 2047, 1},
	{api.Ecall, api.Ebreak, false, false, false, 0, 0, 1},
	{api.Mul, api.Remu, true, true, true, 0, 0, 1},
	{api.LrW, api.LrW, true, true, false, 0, 3, 1},
	{api.ScW, api.AmoMaxu, true, true, true, 0, 3, 1},
	{api.Csrrw, api.Csrrci, true, true, false, 0, 4095, 1},
	{api.Mret, api.Wfi, false, false, false, 0, 0, 1},
	{api.SfenceVma, api.SfenceVma, false, true, true, 0, 0, 1},
}

// checkHolds tells whether Encode takes i just if it may, and Decode finds it again.
func checkHolds(t *testing.T, i api.Ins, may bool) {
	t.Helper()
	if !may {
		checkNoWord(t, i)
		return
	}
	w, e := isa.Encode(i)
	if e != api.OK {
		t.Errorf("P4: Encode(%+v): %v", i, e)
		return
	}
	checkDecode(t, w, i)
}

func TestEncodeKnowsWhatWordsHold(t *testing.T) {
	seen := 0
	for _, h := range holds {
		for op := h.first; op <= h.last; op++ {
			seen++
			for _, imm := range []int{h.least, h.most, h.least - 1, h.most + 1, h.most + h.step, 0, 1, -1, 2, 3, 1 << 12, 1 << 32, -1 << 32, math.MaxInt, math.MinInt} {
				may := imm >= h.least && imm <= h.most && (imm-h.least)%h.step == 0
				checkHolds(t, api.Ins{Op: op, Imm: imm, Len: 4}, may)
			}
			for _, r := range []int{1, 2, 8, 16, 31, 32, 33, 64, -1, 1 << 32, math.MaxInt, math.MinInt} {
				fits := r >= 0 && r <= 31
				checkHolds(t, api.Ins{Op: op, Rd: r, Len: 4}, fits && h.rd)
				checkHolds(t, api.Ins{Op: op, Rs1: r, Len: 4}, fits && h.rs1)
				checkHolds(t, api.Ins{Op: op, Rs2: r, Len: 4}, fits && h.rs2)
			}
			for _, size := range []int{0, 1, 3, 5, 6, 8, 16, 32, -2, -4, math.MaxInt, math.MinInt} {
				checkNoWord(t, api.Ins{Op: op, Len: size})
			}
		}
	}
	if seen != api.NumOps {
		t.Errorf("%d instructions were seen", seen)
	}
	for _, op := range []int{0, -1, api.NumOps + 1, api.DataHalf, 1 << 32, math.MaxInt, math.MinInt} {
		checkNoWord(t, api.Ins{Op: op, Len: 4})
		checkNoWord(t, api.Ins{Op: op, Len: 2})
	}
}
