// Package isa: words and what they mean: see DOC.md.
package isa

import "machine/api"

// Decode tells what a word means (P3).
func Decode(w int) (api.Ins, api.Errno) {
	size := sizeOf(w)
	if size == 0 {
		return api.Ins{}, api.ErrArg
	}
	rows := rowCount(size)
	for n := 1; n <= rows; n++ {
		r := rowAt(size, n)
		i, fits := r.meaning(w)
		if fits {
			return i, api.OK
		}
	}
	return api.Ins{Op: api.Illegal, Len: size}, api.OK
}

// Encode tells the word that means an instruction (P4).
func Encode(i api.Ins) (int, api.Errno) {
	least := 0
	found := false
	rows := rowCount(i.Len)
	for n := 1; n <= rows; n++ {
		r := rowAt(i.Len, n)
		if r.op != i.Op {
			continue
		}
		// A row has one word at the most for i: each of its letters is a bit of i. Whether that word holds all of i, its meaning tells.
		w := draw(r.picture, i)
		back, fits := r.meaning(w)
		if fits && same(back, i) && (!found || w < least) {
			least = w
			found = true
		}
	}
	if !found {
		return 0, api.ErrIns
	}
	return least, api.OK
}

// sizeOf tells how many bytes a word has; 0: w is none.
func sizeOf(w int) int {
	switch {
	case w < 0 || w > 0xffffffff:
		return 0
	case w&3 == 3:
		return 4
	case w <= 0xffff:
		return 2
	}
	return 0
}

func same(a api.Ins, b api.Ins) bool {
	return a.Op == b.Op && a.Rd == b.Rd && a.Rs1 == b.Rs1 && a.Rs2 == b.Rs2 && a.Imm == b.Imm && a.Len == b.Len
}
