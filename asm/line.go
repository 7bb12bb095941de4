package asm

import "machine/api"

// What a line of a text says.
type line struct {
	name   string  // its name, or ""
	ins    api.Ins // Op may be api.DataWord or api.DataHalf too: then Imm is the number; Len 0: the line has no word
	target string  // the name of the line that Imm is the way to, or ""
}

// countLines tells how many lines a text has.
func countLines(text string) int {
	count := 1
	for k := 0; k < len(text); k++ {
		if text[k] == '\n' {
			count = count + 1
		}
	}
	return count
}

// readLines tells what the lines of a text say, or an error and the line that meets it.
func readLines(text string) ([]line, api.Errno, int) {
	lines := make([]line, 0)
	begin := 0
	for end := 0; end <= len(text); end++ {
		if end < len(text) && text[end] != '\n' {
			continue
		}
		list := tokens(text[begin:end])
		l, e := readLine(list, lines)
		if e != api.OK {
			return nil, e, len(lines) + 1
		}
		lines = append(lines, l)
		begin = end + 1
	}
	return lines, api.OK, 0
}

// readLine tells what a line says that comes behind the earlier ones.
func readLine(list []string, earlier []line) (line, api.Errno) {
	name := ""
	if len(list) > 1 && list[1] == ":" {
		name = list[0]
		list = list[2:]
		if !isName(name) {
			return line{}, api.ErrWord
		}
		if findName(earlier, name) < len(earlier) {
			return line{}, api.ErrTwice
		}
	}
	if len(list) == 0 {
		return line{name: name}, api.OK
	}
	op, size := readWord(list[0])
	if size == 0 {
		return line{}, api.ErrWord
	}
	l, ok := readOperands(line{name: name, ins: api.Ins{Op: op, Len: size}}, list[1:])
	if !ok {
		return line{}, api.ErrOperand
	}
	return l, api.OK
}

// findName tells which line has a name; how many lines there are, if none has it.
func findName(lines []line, name string) int {
	for k := 0; k < len(lines); k++ {
		if lines[k].name == name {
			return k
		}
	}
	return len(lines)
}

// readWord tells the instruction that a token names and the bytes of its word; 0 and 0, if it names none.
func readWord(token string) (int, int) {
	if token == api.Name(api.DataWord) {
		return api.DataWord, 4
	}
	if token == api.Name(api.DataHalf) {
		return api.DataHalf, 2
	}
	for op := 1; op <= api.NumOps; op++ {
		if token == api.Name(op) {
			return op, 4
		}
		if token == shortName(op) {
			return op, 2
		}
	}
	return 0, 0
}

// shortName tells how a text names an instruction whose word has 16 bits.
func shortName(op int) string {
	return "c." + api.Name(op)
}
