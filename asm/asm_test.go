package asm_test

import (
	"fmt"
	"math"
	"strconv"
	"strings"
	"testing"

	"machine/api"
	"machine/asm"
	"machine/isa"
)

func checkImage(t *testing.T, text string, want string) {
	t.Helper()
	image, e, n := asm.Assemble(text)
	if got := fmt.Sprintf("%x", image); got != want || e != api.OK || n != 0 {
		t.Errorf("P5: Assemble(%.80q) = %s, %v, %d, want %s", text, got, e, n, want)
	}
}

func checkFault(t *testing.T, text string, want api.Errno, line int) {
	t.Helper()
	if image, e, n := asm.Assemble(text); image != "" || e != want || n != line {
		t.Errorf("P5: Assemble(%.80q) = %x, %v, %d, want %v, %d", text, image, e, n, want, line)
	}
}

func TestImages(t *testing.T) {
	for _, c := range []struct{ text, image string }{
		{"", ""},
		{" \t ", ""},
		{"\n\n", ""},
		{"# addi", ""},
		{"loop: jal x1, loop", "ef000000"},
		{"addi x1, x2, -2048", "93000180"},
		{"addi\tx31 ,x31,\t2047#ecall", "938fff7f"},
		{"c.addi x31, x31, -32", "811f"},
		{"beq x3, x4, -4096", "63804180"},
		{"sb x5, -1(x2)", "a30f51fe"},
		{"sw x5, 4 ( x2 )", "23225100"},
		{"jalr x1, 0x10(x5)", "e7800201"},
		{"amoswap.w x1, x3, x2, 1", "af20310a"},
		{"csrrs x1, 0xC01, x0", "f32010c0"},
		{"csrrci x0, 0xfFf, 0", "7370f0ff"},
		{"fence.i x0, x0, 0", "0f100000"},
		{"sfence.vma x0, x31", "7300f013"},
		{"mret\nsret\nwfi\necall\nebreak", "73002030730020107300501073000000" + "73001000"},
		{"c.jalr x0, 0(x1)\nebreak\nc.ebreak", "8280730010000290"},
	} {
		checkImage(t, c.text, c.image)
	}
}

func TestNumbers(t *testing.T) {
	for _, c := range []struct{ text, image string }{
		{".word 0", "00000000"},
		{".word -0", "00000000"},
		{".word 0000000009", "09000000"},
		{".word 4294967295", "ffffffff"},
		{".word 0xffffffff", "ffffffff"},
		{".word 0xAbCdEf09", "09efcdab"},
		{".word 0x00000001", "01000000"},
		{".word -2147483648", "00000080"},
		{".word -0x80000000", "00000080"},
		{".half 65535", "ffff"},
		{".half -32768", "0080"},
		{".half -1\n.word 1\n.half 0x1234", "ffff010000003412"},
	} {
		checkImage(t, c.text, c.image)
	}
	for _, number := range []string{"4294967296", "9999999999", "-2147483649", "-0x80000001", "-9999999999"} {
		checkFault(t, ".word "+number, api.ErrRange, 1)
	}
	for _, number := range []string{"65536", "-32769", "0xffffffff", "0x10000"} {
		checkFault(t, ".half "+number, api.ErrRange, 1)
	}
	for _, number := range []string{"", "-", "--1", "- 1", "+1", "1-", "1.", "1_0", "00000000009", "12345678901", "0x", "-0x", "0x123456789", "0x000000001", "0xg", "0X1", "x1", "1f", "a", "0x-1", "'a'", "(1)", "1 2", "1,", ",1", "1,2", "1:"} {
		for _, word := range []string{".word ", ".half ", "lui x1, ", "csrrwi x1, 1, "} {
			checkFault(t, word+number, api.ErrOperand, 1)
		}
	}
}

func TestRegisters(t *testing.T) {
	for n := 0; n < 32; n++ {
		w := 0x33 | n<<7 | n<<15 | n<<20
		checkImage(t, fmt.Sprintf("add x%d, x%d, x%d", n, n, n), fmt.Sprintf("%x", api.Le(w, 4)))
	}
	for _, register := range []string{"x32", "x00", "x01", "x", "X1", "x-1", "x1.", "1", "-1", "sp", "x010", "x100", "x 1", "", "x1 x1", "r1", "0x1"} {
		for _, form := range []string{"add %s, x1, x1", "add x1, %s, x1", "add x1, x1, %s", "lw %s, 0(x1)", "lw x1, 0(%s)", "sw %s, 0(x1)", "csrrw x1, 1, %s", "jal %s, 0", "lui %s, 0"} {
			checkFault(t, fmt.Sprintf(form, register), api.ErrOperand, 1)
		}
	}
}

// A line of every shape, cut short, drawn out and with its marks spoiled.
func TestOperandsAreThoseOfTheShape(t *testing.T) {
	for _, text := range []string{
		"lui x1 , 1", "jal x1 , 2", "jalr x1 , 1 ( x2 )", "beq x1 , x2 , 4", "lw x1 , 4 ( x2 )", "sw x1 , 4 ( x2 )", "addi x1 , x2 , 3",
		"add x1 , x2 , x3", "fence x0 , x0 , 1", "lr.w x1 , x2 , 0", "sc.w x1 , x2 , x3 , 0", "csrrw x1 , 1 , x2", "csrrwi x1 , 1 , 2", "sfence.vma x1 , x2", "ecall", ".word 1", ".half 1",
	} {
		if _, e, _ := asm.Assemble(text); e != api.OK {
			t.Errorf("P5: Assemble(%q): %v", text, e)
		}
		f := strings.Fields(text)
		for k := 1; k < len(f); k++ {
			checkFault(t, strings.Join(f[:k], " "), api.ErrOperand, 1)
			for _, other := range []string{";", ",", "(", ")", ":x", "\r", "\x00", "\xff", "%"} {
				if f[k] == other || k == 1 && other == ":x" {
					continue
				}
				spoiled := append([]string{}, f...)
				spoiled[k] = other
				checkFault(t, strings.Join(spoiled, " "), api.ErrOperand, 1)
			}
			without := append(append([]string{}, f[:k]...), f[k+1:]...)
			checkFault(t, strings.Join(without, " "), api.ErrOperand, 1)
		}
		for _, more := range []string{",", ", 1", " 1", " x1", ")", "\r", " ecall", " , x1"} {
			checkFault(t, text+more, api.ErrOperand, 1)
		}
	}
	checkFault(t, "ecall x1", api.ErrOperand, 1)
	checkFault(t, "lw x1, name(x2)", api.ErrOperand, 1)
	checkFault(t, "lw x1, (x2)", api.ErrOperand, 1)
	checkFault(t, "addi x1, x2, name\nname:", api.ErrOperand, 1)
	checkFault(t, "csrrwi x1, 1, x2", api.ErrOperand, 1)
}

func TestFirstTokens(t *testing.T) {
	for _, word := range []string{"addy", "ADDI", "Ecall", "c.", "c", ".", ".wor", ".words", "word", "c..word", "c..half", "c.c.addi", "c.nop", "nop", "x1", "7", "-", ",", "(", "\r", "\x00", "\x80", "é", "c. addi", "amoadd", ".half1", "illegal"} {
		checkFault(t, word, api.ErrWord, 1)
		checkFault(t, "a: "+word, api.ErrWord, 1)
		checkFault(t, word+" x1, x2, 3", api.ErrWord, 1)
	}
	for op := 1; op <= api.NumOps; op++ {
		if api.Shape(op) != "" {
			checkFault(t, api.Name(op), api.ErrOperand, 1)
			checkFault(t, "c."+api.Name(op), api.ErrOperand, 1)
		}
	}
}

func TestNames(t *testing.T) {
	checkImage(t, "a:", "")
	checkImage(t, "a : # here", "")
	checkImage(t, "a:\nb:\nA:\n_:\n.:\na.b_1:", "")
	checkImage(t, "x1: jal x0, x1", "6f000000")
	checkImage(t, "addi: jal x0, addi", "6f000000")
	checkImage(t, ".word: .word 1", "01000000")
	for _, name := range []string{"1a", "1", "0x1", "-", "a-b", "-a", ":", ",", "(", "\r", "\xc3", "x,"} {
		checkFault(t, name+":", api.ErrWord, 1)
		checkFault(t, "\n"+name+": ecall", api.ErrWord, 2)
	}
	checkFault(t, "a: b:", api.ErrWord, 1)
	checkFault(t, "a::", api.ErrWord, 1)
	checkFault(t, ":", api.ErrWord, 1)
	checkFault(t, "a:\n\na:", api.ErrTwice, 3)
	checkFault(t, "a: ecall\na: ecall", api.ErrTwice, 2)
	checkFault(t, "a: ecall\na: bad", api.ErrTwice, 2)
	checkFault(t, "a: ecall\na: ecall 1", api.ErrTwice, 2)
	checkFault(t, "a: bad\na: ecall", api.ErrWord, 1)
}

func TestBytesOfNames(t *testing.T) {
	inside := "abcdefghijklmnopqrstuvwxyzABCDEFGHIJKLMNOPQRSTUVWXYZ._0123456789"
	for c := 0; c < 256; c++ {
		one := string([]byte{byte(c)})
		if strings.Contains(" \t\n#:", one) {
			continue
		}
		if strings.Contains(inside, one) {
			checkImage(t, "q"+one+": jal x0, q"+one, "6f000000")
		} else {
			checkFault(t, "q"+one+": ecall", api.ErrWord, 1)
			checkFault(t, "q: jal x0, q"+one, api.ErrOperand, 1)
		}
		if strings.Contains(inside[:54], one) {
			checkImage(t, one+": jal x0, "+one, "6f000000")
		} else {
			checkFault(t, one+": ecall", api.ErrWord, 1)
		}
	}
}

func TestDigits(t *testing.T) {
	for c := 0; c < 256; c++ {
		one := string([]byte{byte(c)})
		if strings.Contains(" \t\n#:", one) {
			continue
		}
		if v, err := strconv.ParseUint(one, 16, 8); err == nil {
			checkImage(t, ".half 0x1"+one, fmt.Sprintf("1%x00", v))
		} else {
			checkFault(t, ".half 0x1"+one, api.ErrOperand, 1)
		}
		if v, err := strconv.ParseUint(one, 10, 8); err == nil {
			checkImage(t, ".half 1"+one, fmt.Sprintf("%02x00", 10+v))
		} else {
			checkFault(t, ".half 1"+one, api.ErrOperand, 1)
		}
	}
}

func TestNamesAsTargets(t *testing.T) {
	checkImage(t, "jal x0, end\nend:", "6f004000")
	checkImage(t, "jal x0, end\n\nend: # here\n\necall", "6f00400073000000")
	checkImage(t, "top: ecall\nc.ebreak\njal x1, top", "7300000002"+"90eff0bfff")
	checkImage(t, "beq x1, x2, next\n.half 1\nnext: ecall", "6383200001"+"0073000000")
	checkImage(t, "up: c.jal x1, up\nc.jal x0, up\nc.beq x8, x0, up\nc.bne x8, x0, up", "0120fdbf75dc6dfc")
	checkImage(t, "bgeu x1, x2, 0x10", "63f82000")
	checkFault(t, "jal x1, loop", api.ErrLabel, 1)
	checkFault(t, "loop:\njal x1, Loop", api.ErrLabel, 2)
	checkFault(t, "jal x1, x1", api.ErrLabel, 1)
	for _, target := range []string{"1a", "a-b", "-a", "-", "12345678901", "0x123456789", "a b", "(a)", "a(x1)"} {
		checkFault(t, "jal x1, "+target, api.ErrOperand, 1)
		checkFault(t, "beq x1, x2, "+target, api.ErrOperand, 1)
	}
}

func TestRange(t *testing.T) {
	for _, text := range []string{
		"addi x1, x1, 2048", "addi x1, x1, -2049", "addi x1, x1, 4294967295", "slli x1, x1, 32", "slli x1, x1, -1", "lui x1, 524288", "lui x1, -524289",
		"jal x1, 1", "jal x1, 1048576", "jal x1, -1048578", "beq x1, x1, 4096", "beq x1, x1, 3", "beq x1, x1, -4098", "lw x1, 2048(x1)", "sw x1, -2049(x1)",
		"csrrw x1, 4096, x1", "csrrw x1, -1, x1", "csrrwi x1, 0, 32", "csrrwi x1, 0, -1", "lr.w x1, x1, 4", "sc.w x1, x1, x1, -1", "fence x0, x0, 2048",
		"c.addi x8, x8, 32", "c.addi x8, x9, 1", "c.lw x1, 4(x1)", "c.lw x8, 2(x8)", "c.lw x8, 128(x8)", "c.jal x2, 2", "c.jal x1, 2048", "c.ecall", "c.mul x1, x1, x1",
		"c.beq x8, x1, 2", "c.beq x7, x0, 2", "c.jalr x0, 0(x0)", "c.jalr x2, 0(x1)", "c.lui x2, 1", "c.lui x1, 0", "c.csrrwi x1, 1, 1", "c.amoadd.w x1, x1, x1, 0",
	} {
		checkFault(t, text, api.ErrRange, 1)
	}
	near := "beq x0, x0, end\n" + strings.Repeat("ecall\n", 63) + "end:"
	checkFault(t, "c."+near, api.ErrRange, 1)
	if _, e, _ := asm.Assemble(near); e != api.OK {
		t.Errorf("P5: %v", e)
	}
	last := strings.Repeat("ecall\n", 63)
	if _, e, _ := asm.Assemble("c.beq x8, x0, end\n" + last + "end:"); e != api.OK {
		t.Errorf("P5: 254 bytes further: %v", e)
	}
	checkFault(t, "c.beq x8, x0, end\nc.ebreak\n"+last+"end:", api.ErrRange, 1)
}

func TestLimits(t *testing.T) {
	checkImage(t, strings.Repeat(" ", api.MaxText), "")
	checkImage(t, strings.Repeat("\n", api.MaxLines-1), "")
	checkImage(t, strings.Repeat("ecall\n", api.MaxLines-1)+"ebreak", strings.Repeat("73000000", api.MaxLines-1)+"73001000")
	checkFault(t, strings.Repeat(" ", api.MaxText+1), api.ErrLong, 0)
	checkFault(t, strings.Repeat("\n", api.MaxText+1), api.ErrLong, 0)
	checkFault(t, strings.Repeat("bad ", 1<<20), api.ErrLong, 0)
	checkFault(t, strings.Repeat("\n", api.MaxLines), api.ErrLines, 0)
	checkFault(t, "bad"+strings.Repeat("\n", api.MaxLines), api.ErrLines, 0)
	checkFault(t, strings.Repeat("\n", api.MaxLines-1)+"bad", api.ErrWord, api.MaxLines)
}

// A line that cannot be read is told ahead of one that has no word, wherever they stand.
func TestTheFirstFault(t *testing.T) {
	checkFault(t, "ecall\n\n\nbad", api.ErrWord, 4)
	checkFault(t, "jal x1, nowhere\naddi x1, x1, 5000\nadd x1", api.ErrOperand, 3)
	checkFault(t, "slli x1, x1, 32\njal x1, nowhere", api.ErrRange, 1)
	checkFault(t, "ecall\njal x1, nowhere\nslli x1, x1, 32", api.ErrLabel, 2)
	checkFault(t, "c.jal x2, nowhere", api.ErrLabel, 1)
	checkFault(t, "add x1\nbad", api.ErrOperand, 1)
	checkFault(t, "bad\nadd x1", api.ErrWord, 1)
	checkFault(t, "1a: bad x1", api.ErrWord, 1)
	checkFault(t, ".half 65536\n.word 4294967296\n.half", api.ErrOperand, 3)
}

func TestAnyBytes(t *testing.T) {
	for a := 0; a < 256; a++ {
		for b := 0; b < 256; b++ {
			for _, text := range []string{string([]byte{byte(a), byte(b)}), "ecall" + string([]byte{byte(a), byte(b)}), "jal x0," + string([]byte{byte(a), byte(b)})} {
				image, e, n := asm.Assemble(text)
				if e != api.OK && (image != "" || n < 1 || n > 3) || e == api.OK && n != 0 {
					t.Errorf("P1: Assemble(%q) = %x, %v, %d", text, image, e, n)
				}
			}
		}
	}
}

func checkText(t *testing.T, w int, want string) {
	t.Helper()
	if text, e := asm.Text(w); text != want || e != api.OK {
		t.Errorf("P6: Text(%#x) = %q, %v, want %q", w, text, e, want)
	}
}

func TestLinesOfWords(t *testing.T) {
	for _, c := range []struct {
		w    int
		text string
	}{
		{0xffc10283, "lb x5, -4(x2)"},
		{0x8082, "c.jalr x0, 0(x1)"},
		{0xffffffff, ".word 4294967295"},
		{0x800000b7, "lui x1, -524288"},
		{0x0000006f, "jal x0, 0"},
		{0x80208063, "beq x1, x2, -4096"},
		{0xfe512fa3, "sw x5, -1(x2)"},
		{0x00c58533, "add x10, x11, x12"},
		{0x0ac5a52f, "amoswap.w x10, x12, x11, 1"},
		{0x1605a52f, "lr.w x10, x11, 3"},
		{0xc0102573, "csrrs x10, 3073, x0"},
		{0xfffff7f3, "csrrci x15, 4095, 31"},
		{0x12b50073, "sfence.vma x10, x11"},
		{0x30200073, "mret"},
		{0x0000100f, "fence.i x0, x0, 0"},
		{0x9002, "c.ebreak"},
		{0x0000, ".half 0"},
		{0xffff, ".word 65535"},
		{0xfffe, ".half 65534"},
		{0x6141, ".half 24897"}, // addi x2, x2, 16: 0x0141 means it too
		{0x0141, "c.addi x2, x2, 16"},
		{0x900e, ".half 36878"}, // add x0, x0, x3: 0x800e means it too
		{0x800e, "c.add x0, x0, x3"},
		{0x4015, ".half 16405"}, // addi x0, x0, 5: 0x0015 means it too
	} {
		checkText(t, c.w, c.text)
	}
	for _, w := range []int{-1, 65536, 65538, 0xfffffffe, 1 << 32, 1<<32 + 3, math.MaxInt, math.MinInt, math.MinInt + 3} {
		if text, e := asm.Text(w); text != "" || e != api.ErrArg {
			t.Errorf("P6: Text(%#x) = %q, %v, want ErrArg", w, text, e)
		}
	}
}

// checkBack tells whether the line of w means w, and is data just where it must be.
func checkBack(t *testing.T, w int, size int) {
	t.Helper()
	text, e := asm.Text(w)
	if e != api.OK {
		t.Fatalf("P6: Text(%#x): %v", w, e)
	}
	if image, e, _ := asm.Assemble(text); image != api.Le(w, size) || e != api.OK {
		t.Errorf("P6: Text(%#x) = %q, which means %x, %v", w, text, image, e)
	}
	i, _ := isa.Decode(w)
	v, f := isa.Encode(i)
	if strings.HasPrefix(text, ".") == (f == api.OK && v == w) {
		t.Errorf("P6: Text(%#x) = %q", w, text)
	}
	if want := fmt.Sprintf(map[int]string{2: ".half %d", 4: ".word %d"}[size], w); strings.HasPrefix(text, ".") && text != want {
		t.Errorf("P6: Text(%#x) = %q, want %q", w, text, want)
	}
	if !strings.HasPrefix(text, ".") && strings.HasPrefix(text, "c.") != (size == 2) {
		t.Errorf("P6: Text(%#x) = %q of %d bytes", w, text, size)
	}
}

func TestLinesMeanTheirWords(t *testing.T) {
	for w := 0; w < 1<<16; w++ {
		if w&3 != 3 {
			checkBack(t, w, 2)
		}
	}
	seed := 7
	for k := 0; k < 20000; k++ {
		seed = (seed*1103515245 + 12345) & 0x7fffffff
		checkBack(t, seed*3&0xffffffff|3, 4)
	}
}
