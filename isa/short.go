package isa

import "machine/api"

// How many rows the table of words of 16 bits has.
const shortRows = 26

// shortRow tells row n, from 1 on, of the table of words of 16 bits; an empty one, if there is none.
func shortRow(n int) row {
	switch {
	case n <= 3:
		return shortRow00(n)
	case n <= 18:
		return shortRow01(n)
	}
	return shortRow10(n)
}

// shortRow00 tells the rows whose words end with 00.
func shortRow00(n int) row {
	switch n {
	case 1:
		return row{api.Addi, "000fejihgcdDDD00", stackRs1 + someImm}
	case 2:
		return row{api.Lw, "010fedSSScgDDD00", 0}
	case 3:
		return row{api.Sw, "110fedSSScgTTT00", 0}
	}
	return row{}
}

// shortRow01 tells the rows whose words end with 01.
func shortRow01(n int) row {
	switch n {
	case 4:
		return row{api.Addi, "000fBBBBBedcba01", signed}
	case 5:
		return row{api.Jal, "001lejikghdcbf01", signed + linkRd}
	case 6:
		return row{api.Addi, "010fDDDDDedcba01", signed}
	case 7:
		return row{api.Addi, "011j00010egihf01", signed + stackRd + stackRs1 + someImm}
	case 8:
		return row{api.Lui, "011fDDDDDedcba01", signed + someImm + noStackRd}
	case 9:
		return row{api.Srli, "100000BBBedcba01", 0}
	case 10:
		return row{api.Srai, "100001BBBedcba01", 0}
	case 11:
		return row{api.Andi, "100f10BBBedcba01", signed}
	case 12:
		return row{api.Sub, "100011BBB00TTT01", 0}
	case 13:
		return row{api.Xor, "100011BBB01TTT01", 0}
	case 14:
		return row{api.Or, "100011BBB10TTT01", 0}
	case 15:
		return row{api.And, "100011BBB11TTT01", 0}
	case 16:
		return row{api.Jal, "101lejikghdcbf01", signed}
	case 17:
		return row{api.Beq, "110iedSSShgcbf01", signed}
	case 18:
		return row{api.Bne, "111iedSSShgcbf01", signed}
	}
	return row{}
}

// shortRow10 tells the rows whose words end with 10.
func shortRow10(n int) row {
	switch n {
	case 19:
		return row{api.Slli, "0000BBBBBedcba10", 0}
	case 20:
		return row{api.Lw, "010fDDDDDedchg10", stackRs1 + someRd}
	case 21:
		return row{api.Jalr, "1000SSSSS0000010", someRs1}
	case 22:
		return row{api.Add, "1000DDDDDTTTTT10", someRs2}
	case 23:
		return row{api.Ebreak, "1001000000000010", 0}
	case 24:
		return row{api.Jalr, "1001SSSSS0000010", linkRd + someRs1}
	case 25:
		return row{api.Add, "1001BBBBBTTTTT10", someRs2}
	case 26:
		return row{api.Sw, "110fedchgTTTTT10", stackRs1}
	}
	return row{}
}
