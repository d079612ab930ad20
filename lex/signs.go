package lex

import "unicode/utf8"

// first is the first sign of s; none that means anything, if there is none.
func first(s string) rune {
	for _, c := range s {
		return c
	}
	return utf8.RuneError
}

func isBlank(c rune) bool {
	return c == ' '
}

func isDigit(c rune) bool {
	return c >= '0' && c <= '9'
}

func isLetter(c rune) bool {
	return c >= 'A' && c <= 'Z' || c >= 'a' && c <= 'z'
}

func isCell(c rune) bool {
	return isLetter(c) || isDigit(c) || c == '$'
}

func isWord(c rune) bool {
	return isCell(c) || c == '_' || c == '.'
}

func isFirst(c rune) bool {
	return isWord(c) && !isDigit(c) && c != '.'
}

func isSigns(s string) bool {
	switch s {
	case "<>", "<=", ">=":
		return true
	case "=", "<", ">", "&", "+", "-", "*", "/", "^", "%", "(", ")", ",", ";", ":", "{", "}":
		return true
	}
	return false
}

// isText holds of a text of any length.
func isText(s string) bool {
	for _, c := range s {
		if c < ' ' || c == 0x7f {
			return false
		}
	}
	return utf8.ValidString(s)
}

// great has great letters of ASCII in place of small ones, byte by byte.
func great(s string) string {
	b := []byte(s)
	for i, c := range b {
		if c >= 'a' && c <= 'z' {
			b[i] = c - 'a' + 'A'
		}
	}
	return string(b)
}
