package isa

import "machine/api"

// A row of the document's tables: the instruction, its picture, and what is told behind the picture.
type row struct {
	op      int
	picture string
	rules   int
}

// What may be told of a row; the numbers are added.
const (
	signed    = 1   // Imm's highest letter weighs negative
	linkRd    = 2   // rd is x1
	stackRd   = 4   // rd is x2
	stackRs1  = 8   // rs1 is x2
	someImm   = 16  // not with immediate 0
	someRd    = 32  // not with rd x0
	someRs1   = 64  // not with rs1 x0
	someRs2   = 128 // not with rs2 x0
	noStackRd = 256 // not with rd x2
)

// rowCount tells how many rows the table of words of so many bytes has; 0: there is no such table.
func rowCount(size int) int {
	switch size {
	case 4:
		return api.NumOps
	case 2:
		return shortRows
	}
	return 0
}

// rowAt tells row n, from 1 on, of the table of words of so many bytes.
func rowAt(size int, n int) row {
	if size == 4 {
		return longRow(n)
	}
	return shortRow(n)
}

func (r row) has(rule int) bool {
	return r.rules&rule != 0
}

// meaning tells what w means by this row, and whether it fits it.
func (r row) meaning(w int) (api.Ins, bool) {
	if !fixedBitsFit(r.picture, w) {
		return api.Ins{}, false
	}
	i := r.read(w)
	if r.rulesOut(i) {
		return api.Ins{}, false
	}
	return i, true
}

// read tells the fields of w, as this row draws and tells them.
func (r row) read(w int) api.Ins {
	// A register that is not drawn reads 0, and none is drawn twice: so sums serve.
	both := register(r.picture, 'B', w)
	rd := register(r.picture, 'D', w)
	rs1 := register(r.picture, 'S', w)
	rs2 := register(r.picture, 'T', w)
	rd = rd + both + r.toldRd()
	rs1 = rs1 + both + r.toldRs1()
	imm := immediate(r.picture, r.has(signed), w)
	return api.Ins{Op: r.op, Rd: rd, Rs1: rs1, Rs2: rs2, Imm: imm, Len: len(r.picture) / 8}
}

func (r row) toldRd() int {
	switch {
	case r.has(linkRd):
		return 1
	case r.has(stackRd):
		return 2
	}
	return 0
}

func (r row) toldRs1() int {
	if r.has(stackRs1) {
		return 2
	}
	return 0
}

// rulesOut tells whether i is one of those that this row is not for.
func (r row) rulesOut(i api.Ins) bool {
	switch {
	case i.Imm == 0 && r.has(someImm):
		return true
	case i.Rd == 0 && r.has(someRd):
		return true
	case i.Rs1 == 0 && r.has(someRs1):
		return true
	case i.Rs2 == 0 && r.has(someRs2):
		return true
	case i.Rd == 2 && r.has(noStackRd):
		return true
	}
	return false
}
