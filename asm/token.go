package asm

import "strconv"

// tokens tells the tokens of a line.
func tokens(text string) []string {
	list := make([]string, 0)
	at := 0
	for at < len(text) && text[at] != '#' {
		end := rowEnd(text, at)
		switch {
		case end > at:
			list = append(list, text[at:end])
			at = end
		case isBlank(text[at]):
			at = at + 1
		default:
			list = append(list, text[at:at+1])
			at = at + 1
		}
	}
	return list
}

// rowEnd tells where the row of letters, digits and the like that begins at a place ends; that place, if none does.
func rowEnd(text string, at int) int {
	for at < len(text) && (isNameByte(text[at]) || text[at] == '-') {
		at = at + 1
	}
	return at
}

// tokenAt tells a token of a list; "", which is none, behind its end.
func tokenAt(list []string, at int) string {
	if at < 0 || at >= len(list) {
		return ""
	}
	return list[at]
}

func isBlank(c byte) bool {
	return c == ' ' || c == '\t'
}

func isDigit(c byte) bool {
	return c >= '0' && c <= '9'
}

func isNameByte(c byte) bool {
	return c >= 'a' && c <= 'z' || c >= 'A' && c <= 'Z' || isDigit(c) || c == '.' || c == '_'
}

// isName tells whether a token can be the name of a line.
func isName(token string) bool {
	if token == "" || isDigit(token[0]) {
		return false
	}
	for k := 0; k < len(token); k++ {
		if !isNameByte(token[k]) {
			return false
		}
	}
	return true
}

// registerName tells how a text names a register.
func registerName(n int) string {
	return "x" + strconv.Itoa(n)
}

// readRegister tells the register that a token names, and whether it names one.
func readRegister(token string) (int, bool) {
	for n := 0; n < 32; n++ {
		if token == registerName(n) {
			return n, true
		}
	}
	return 0, false
}

// readNumber tells the number that a token is, and whether it is one.
func readNumber(token string) (int, bool) {
	if len(token) > 0 && token[0] == '-' {
		n, ok := readPlainNumber(token[1:])
		return -n, ok
	}
	return readPlainNumber(token)
}

// readPlainNumber is readNumber for a token without a sign.
func readPlainNumber(token string) (int, bool) {
	if len(token) > 2 && token[0] == '0' && token[1] == 'x' {
		return readDigits(token[2:], 16, 8)
	}
	return readDigits(token, 10, 10)
}

// readDigits tells the number that digits of a base mean, at least one and so many at the most.
func readDigits(digits string, base int, most int) (int, bool) {
	if len(digits) < 1 || len(digits) > most {
		return 0, false
	}
	number := 0
	for k := 0; k < len(digits); k++ {
		d := digitValue(digits[k])
		if d >= base {
			return 0, false
		}
		number = number*base + d
	}
	return number, true
}

// digitValue tells what a digit weighs; of a byte that is none, more than any base here.
func digitValue(c byte) int {
	switch {
	case isDigit(c):
		return int(c - '0')
	case c >= 'a' && c <= 'f':
		return int(c-'a') + 10
	case c >= 'A' && c <= 'F':
		return int(c-'A') + 10
	}
	return 16
}
