package isa_test

import (
	"fmt"
	"strconv"
	"strings"
	"testing"

	"machine/api"
)

// The document's tables, as they stand there: what the package must agree with.
const longTable = `
 1 lui        di   tsrqponmlkjihgfedcbaDDDDD0110111 signed
 2 auipc      di   tsrqponmlkjihgfedcbaDDDDD0010111 signed
 3 jal        dj   ukjihgfedcbltsrqponmDDDDD1101111 signed
 4 jalr       dm   lkjihgfedcbaSSSSS000DDDDD1100111 signed
 5 beq        stj  mkjihgfTTTTTSSSSS000edcbl1100011 signed
 6 bne        stj  mkjihgfTTTTTSSSSS001edcbl1100011 signed
 7 blt        stj  mkjihgfTTTTTSSSSS100edcbl1100011 signed
 8 bge        stj  mkjihgfTTTTTSSSSS101edcbl1100011 signed
 9 bltu       stj  mkjihgfTTTTTSSSSS110edcbl1100011 signed
10 bgeu       stj  mkjihgfTTTTTSSSSS111edcbl1100011 signed
11 lb         dm   lkjihgfedcbaSSSSS000DDDDD0000011 signed
12 lh         dm   lkjihgfedcbaSSSSS001DDDDD0000011 signed
13 lw         dm   lkjihgfedcbaSSSSS010DDDDD0000011 signed
14 lbu        dm   lkjihgfedcbaSSSSS100DDDDD0000011 signed
15 lhu        dm   lkjihgfedcbaSSSSS101DDDDD0000011 signed
16 sb         tm   lkjihgfTTTTTSSSSS000edcba0100011 signed
17 sh         tm   lkjihgfTTTTTSSSSS001edcba0100011 signed
18 sw         tm   lkjihgfTTTTTSSSSS010edcba0100011 signed
19 addi       dsi  lkjihgfedcbaSSSSS000DDDDD0010011 signed
20 slti       dsi  lkjihgfedcbaSSSSS010DDDDD0010011 signed
21 sltiu      dsi  lkjihgfedcbaSSSSS011DDDDD0010011 signed
22 xori       dsi  lkjihgfedcbaSSSSS100DDDDD0010011 signed
23 ori        dsi  lkjihgfedcbaSSSSS110DDDDD0010011 signed
24 andi       dsi  lkjihgfedcbaSSSSS111DDDDD0010011 signed
25 slli       dsi  0000000edcbaSSSSS001DDDDD0010011
26 srli       dsi  0000000edcbaSSSSS101DDDDD0010011
27 srai       dsi  0100000edcbaSSSSS101DDDDD0010011
28 add        dst  0000000TTTTTSSSSS000DDDDD0110011
29 sub        dst  0100000TTTTTSSSSS000DDDDD0110011
30 sll        dst  0000000TTTTTSSSSS001DDDDD0110011
31 slt        dst  0000000TTTTTSSSSS010DDDDD0110011
32 sltu       dst  0000000TTTTTSSSSS011DDDDD0110011
33 xor        dst  0000000TTTTTSSSSS100DDDDD0110011
34 srl        dst  0000000TTTTTSSSSS101DDDDD0110011
35 sra        dst  0100000TTTTTSSSSS101DDDDD0110011
36 or         dst  0000000TTTTTSSSSS110DDDDD0110011
37 and        dst  0000000TTTTTSSSSS111DDDDD0110011
38 fence      dsi  lkjihgfedcbaSSSSS000DDDDD0001111 signed
39 fence.i    dsi  lkjihgfedcbaSSSSS001DDDDD0001111 signed
40 ecall      -    00000000000000000000000001110011
41 ebreak     -    00000000000100000000000001110011
42 mul        dst  0000001TTTTTSSSSS000DDDDD0110011
43 mulh       dst  0000001TTTTTSSSSS001DDDDD0110011
44 mulhsu     dst  0000001TTTTTSSSSS010DDDDD0110011
45 mulhu      dst  0000001TTTTTSSSSS011DDDDD0110011
46 div        dst  0000001TTTTTSSSSS100DDDDD0110011
47 divu       dst  0000001TTTTTSSSSS101DDDDD0110011
48 rem        dst  0000001TTTTTSSSSS110DDDDD0110011
49 remu       dst  0000001TTTTTSSSSS111DDDDD0110011
50 lr.w       dsi  00010ba00000SSSSS010DDDDD0101111
51 sc.w       dtsi 00011baTTTTTSSSSS010DDDDD0101111
52 amoswap.w  dtsi 00001baTTTTTSSSSS010DDDDD0101111
53 amoadd.w   dtsi 00000baTTTTTSSSSS010DDDDD0101111
54 amoxor.w   dtsi 00100baTTTTTSSSSS010DDDDD0101111
55 amoand.w   dtsi 01100baTTTTTSSSSS010DDDDD0101111
56 amoor.w    dtsi 01000baTTTTTSSSSS010DDDDD0101111
57 amomin.w   dtsi 10000baTTTTTSSSSS010DDDDD0101111
58 amomax.w   dtsi 10100baTTTTTSSSSS010DDDDD0101111
59 amominu.w  dtsi 11000baTTTTTSSSSS010DDDDD0101111
60 amomaxu.w  dtsi 11100baTTTTTSSSSS010DDDDD0101111
61 csrrw      dis  lkjihgfedcbaSSSSS001DDDDD1110011
62 csrrs      dis  lkjihgfedcbaSSSSS010DDDDD1110011
63 csrrc      dis  lkjihgfedcbaSSSSS011DDDDD1110011
64 csrrwi     diu  lkjihgfedcbaSSSSS101DDDDD1110011
65 csrrsi     diu  lkjihgfedcbaSSSSS110DDDDD1110011
66 csrrci     diu  lkjihgfedcbaSSSSS111DDDDD1110011
67 mret       -    00110000001000000000000001110011
68 sret       -    00010000001000000000000001110011
69 wfi        -    00010000010100000000000001110011
70 sfence.vma st   0001001TTTTTSSSSS000000001110011
`

const shortTable = `
addi    000fejihgcdDDD00  rs1 is x2; not with immediate 0
lw      010fedSSScgDDD00
sw      110fedSSScgTTT00
addi    000fBBBBBedcba01  signed
jal     001lejikghdcbf01  signed; rd is x1
addi    010fDDDDDedcba01  signed
addi    011j00010egihf01  signed; rd is x2; rs1 is x2; not with immediate 0
lui     011fDDDDDedcba01  signed; not with immediate 0 or rd x2
srli    100000BBBedcba01
srai    100001BBBedcba01
andi    100f10BBBedcba01  signed
sub     100011BBB00TTT01
xor     100011BBB01TTT01
or      100011BBB10TTT01
and     100011BBB11TTT01
jal     101lejikghdcbf01  signed
beq     110iedSSShgcbf01  signed
bne     111iedSSShgcbf01  signed
slli    0000BBBBBedcba10
lw      010fDDDDDedchg10  rs1 is x2; not with rd x0
jalr    1000SSSSS0000010  not with rs1 x0
add     1000DDDDDTTTTT10  not with rs2 x0
ebreak  1001000000000010
jalr    1001SSSSS0000010  rd is x1; not with rs1 x0
add     1001BBBBBTTTTT10  not with rs2 x0
sw      110fedchgTTTTT10  rs1 is x2
`

// A row as the tests read it: by the text, with none of the package's own code.
type tableRow struct {
	op      int
	name    string
	shape   string
	picture string
	told    []string
}

func opNamed(t *testing.T, name string) int {
	for op := 1; op <= api.NumOps; op++ {
		if api.Name(op) == name {
			return op
		}
	}
	t.Fatalf("no instruction is named %q", name)
	return 0
}

func told(fields []string) []string {
	text := strings.Join(fields, " ")
	text = strings.ReplaceAll(text, " or rd x2", "; not with rd x2")
	list := []string{}
	for _, one := range strings.Split(text, "; ") {
		if one != "" {
			list = append(list, one)
		}
	}
	return list
}

func longRows(t *testing.T) []tableRow {
	rows := []tableRow{}
	for _, text := range strings.Split(strings.Trim(longTable, "\n"), "\n") {
		f := strings.Fields(text)
		op, err := strconv.Atoi(f[0])
		if err != nil || op != opNamed(t, f[1]) {
			t.Fatalf("row %q", text)
		}
		rows = append(rows, tableRow{op, f[1], f[2], f[3], told(f[4:])})
	}
	return rows
}

func shortRows(t *testing.T) []tableRow {
	rows := []tableRow{}
	for _, text := range strings.Split(strings.Trim(shortTable, "\n"), "\n") {
		f := strings.Fields(text)
		rows = append(rows, tableRow{opNamed(t, f[0]), f[0], "", f[1], told(f[2:])})
	}
	return rows
}

// fixedBits tells whether w has the bits that the picture fixes.
func (r tableRow) fixedBits(w int) bool {
	for k, c := range r.picture {
		bit := rune('0' + w>>(len(r.picture)-1-k)&1)
		if (c == '0' || c == '1') && c != bit {
			return false
		}
	}
	return true
}

// bitsOf gathers the bits of w under each letter of the picture, the highest first.
func (r tableRow) bitsOf(w int) map[rune]string {
	bits := fmt.Sprintf("%0*b", len(r.picture), w)
	under := map[rune]string{}
	for k, c := range r.picture {
		under[c] += bits[k : k+1]
	}
	return under
}

func registerOf(bits string) int {
	if bits == "" {
		return 0
	}
	n, _ := strconv.ParseInt(bits, 2, 64)
	if len(bits) == 3 {
		n += 8
	}
	return int(n)
}

// fit tells what w means by the row, if it fits it.
func (r tableRow) fit(t *testing.T, w int) (api.Ins, bool) {
	if !r.fixedBits(w) {
		return api.Ins{}, false
	}
	under := r.bitsOf(w)
	i := api.Ins{Op: r.op, Len: len(r.picture) / 8}
	i.Rd = registerOf(under['D'] + under['B'])
	i.Rs1 = registerOf(under['S'] + under['B'])
	i.Rs2 = registerOf(under['T'])
	top := 'a' - 1
	for c := 'a'; c <= 'z'; c++ {
		if under[c] == "1" {
			i.Imm += 1 << (c - 'a')
		}
		if under[c] != "" {
			top = c
		}
	}
	for _, one := range r.told {
		switch one {
		case "signed":
			if under[top] == "1" {
				i.Imm -= 2 << (top - 'a')
			}
		case "rd is x1":
			i.Rd = 1
		case "rd is x2":
			i.Rd = 2
		case "rs1 is x2":
			i.Rs1 = 2
		}
	}
	for _, one := range r.told {
		switch one {
		case "signed", "rd is x1", "rd is x2", "rs1 is x2":
		case "not with immediate 0":
			if i.Imm == 0 {
				return api.Ins{}, false
			}
		case "not with rd x0", "not with rd x2":
			if fmt.Sprintf("not with rd x%d", i.Rd) == one {
				return api.Ins{}, false
			}
		case "not with rs1 x0":
			if i.Rs1 == 0 {
				return api.Ins{}, false
			}
		case "not with rs2 x0":
			if i.Rs2 == 0 {
				return api.Ins{}, false
			}
		default:
			t.Fatalf("row %+v: what is %q?", r, one)
		}
	}
	return i, true
}

// meaning tells what w means by the tables alone.
func meaning(t *testing.T, rows []tableRow, w int) api.Ins {
	for _, r := range rows {
		if i, fits := r.fit(t, w); fits {
			return i
		}
	}
	return api.Ins{Len: len(rows[0].picture) / 8}
}
