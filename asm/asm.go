// Package asm: texts and what they mean: see DOC.md.
package asm

import (
	"machine/api"
	"machine/isa"
)

// Assemble tells the image that a text means (P5).
func Assemble(text string) (string, api.Errno, int) {
	if len(text) > api.MaxText {
		return "", api.ErrLong, 0
	}
	if countLines(text) > api.MaxLines {
		return "", api.ErrLines, 0
	}
	lines, e, bad := readLines(text)
	if e != api.OK {
		return "", e, bad
	}
	return layLines(lines)
}

// Text tells the line that means a word (P6).
func Text(w int) (string, api.Errno) {
	i, e := isa.Decode(w)
	if e != api.OK {
		return "", e
	}
	// Of several words that mean i a line means one: the others are told as data.
	back, none := isa.Encode(i)
	if none != api.OK || back != w {
		return dataText(w, i.Len), api.OK
	}
	return insText(i), api.OK
}
