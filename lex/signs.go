package lex

import (
	"unicode/utf8"

	"tabula/letters"
)

// first is the first sign of s; none that means anything, if there is none.
func first(s string) rune {
	for _, c := range s {
		return c
	}
	return utf8.RuneError
}

func isBlank(c rune) bool {
	return c == ' '
}

func isCell(c rune) bool {
	return letters.IsLetter(c) || letters.IsDigit(c) || c == '$'
}

func isWord(c rune) bool {
	return isCell(c) || c == '_' || c == '.'
}

func isFirst(c rune) bool {
	return isWord(c) && !letters.IsDigit(c) && c != '.'
}

func isSigns(s string) bool {
	switch s {
	case "<>", "<=", ">=":
		return true
	case "=", "<", ">", "&", "+", "-", "*", "/", "^", "%", "(", ")", ",", ";", ":", "{", "}":
		return true
	}
	return false
}
