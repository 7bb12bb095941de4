package asm

import (
	"machine/api"
	"machine/isa"
)

// layLines tells the image of lines, or an error and the line that meets it.
func layLines(lines []line) (string, api.Errno, int) {
	image := ""
	for k := 0; k < len(lines); k++ {
		l := lines[k]
		if l.target != "" {
			target := findName(lines, l.target)
			if target == len(lines) {
				return "", api.ErrLabel, k + 1
			}
			l.ins.Imm = placeOf(lines, target) - len(image)
		}
		w, e := wordOf(l.ins)
		if e != api.OK {
			return "", e, k + 1
		}
		image = image + api.Le(w, l.ins.Len)
	}
	return image, api.OK, 0
}

// placeOf tells how many bytes lie ahead of a line's word.
func placeOf(lines []line, n int) int {
	place := 0
	for k := 0; k < n && k < len(lines); k++ {
		place = place + lines[k].ins.Len
	}
	return place
}

// wordOf tells the word of a line; 0, if the line has none.
func wordOf(i api.Ins) (int, api.Errno) {
	switch {
	case i.Len == 0:
		return 0, api.OK
	case i.Op == api.DataWord:
		return dataOf(i.Imm, -1<<31, 1<<32-1)
	case i.Op == api.DataHalf:
		return dataOf(i.Imm, -1<<15, 1<<16-1)
	}
	w, e := isa.Encode(i)
	if e != api.OK {
		return 0, api.ErrRange
	}
	return w, api.OK
}

func dataOf(number int, least int, most int) (int, api.Errno) {
	if number < least || number > most {
		return 0, api.ErrRange
	}
	return number, api.OK
}
