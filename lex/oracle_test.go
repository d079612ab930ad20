package lex_test

// What the chapter says of pieces, by expressions in place of a reader.

import (
	"regexp"
	"slices"
	"strings"
	"unicode/utf8"

	"tabula/api"
	"tabula/dec"
	"tabula/ref"
)

var (
	numbers = regexp.MustCompile(`\A[0-9]+(?:\.[0-9]+)?`)
	texts   = regexp.MustCompile(`\A"(?:[^"]|"")*"`)
	sheets  = regexp.MustCompile(`\A'(?:[^']|'')*'`)
	cells   = regexp.MustCompile(`\A![A-Za-z0-9$]*`)
	words   = regexp.MustCompile(`\A[A-Za-z_$][A-Za-z0-9_.$]*`)
	columns = regexp.MustCompile(`\A\[[^\]]*\]`)
	errors  = regexp.MustCompile(`(?i)\A(?:#NULL!|#DIV/0!|#VALUE!|#REF!|#NAME\?|#NUM!|#N/A|#SPILL!|#CIRC!)`)
	signs   = regexp.MustCompile(`\A(?:<>|<=|>=|[-=<>&+*/^%(),;:{}])`)
)

func shown(s string) bool {
	return utf8.ValidString(s) && !strings.ContainsFunc(s, func(c rune) bool { return c < 32 || c == 127 })
}

func isRef(s string) bool {
	_, err := ref.Read(s)
	return err == api.OK
}

func isName(s string) bool {
	return words.FindString(s) == s && s != "" && len(s) <= 30 && !strings.Contains(s, "$") && !isRef(s) && !slices.Contains([]string{"TRUE", "FALSE"}, strings.ToUpper(s))
}

// begun is the piece that s begins with, how many bytes it has there, and whether it is one.
func begun(s string) (api.Tok, int, bool) {
	if n := numbers.FindString(s); n != "" {
		_, err := dec.Read(n)
		return api.Tok{Kind: api.TkNum, S: n}, len(n), err == api.OK
	}
	if s[0] == '"' {
		x := texts.FindString(s)
		if x == "" || strings.HasPrefix(s[len(x):], `"`) {
			return api.Tok{}, 0, false
		}
		inner := strings.ReplaceAll(x[1:len(x)-1], `""`, `"`)
		return api.Tok{Kind: api.TkText, S: inner}, len(x), shown(inner)
	}
	if e := errors.FindString(s); e != "" {
		kind := api.TkFault
		if strings.EqualFold(e, "#REF!") {
			kind = api.TkRef
		}
		return api.Tok{Kind: kind, S: strings.ToUpper(e)}, len(e), true
	}
	if s[0] == '\'' {
		x := sheets.FindString(s)
		if x == "" || strings.HasPrefix(s[len(x):], "'") {
			return api.Tok{}, 0, false
		}
		x += cells.FindString(s[len(x):])
		return api.Tok{Kind: api.TkRef, S: x}, len(x), isRef(x)
	}
	if w := words.FindString(s); w != "" {
		return wordly(w, s[len(w):])
	}
	x := signs.FindString(s)
	return api.Tok{Kind: api.TkSign, S: x}, len(x), x != ""
}

func wordly(w string, behind string) (api.Tok, int, bool) {
	if strings.HasPrefix(behind, "!") {
		x := w + cells.FindString(behind)
		return api.Tok{Kind: api.TkRef, S: x}, len(x), isRef(x)
	}
	if strings.HasPrefix(behind, "(") && len(w) <= 30 && !strings.Contains(w, "$") {
		return api.Tok{Kind: api.TkCall, S: w}, len(w), true
	}
	if strings.HasPrefix(behind, "[") && isName(w) {
		x := columns.FindString(behind)
		inner := strings.Trim(x, "[]")
		return api.Tok{Kind: api.TkCol, S: w + x}, len(w + x), x == "["+inner+"]" && len(inner) >= 1 && len(inner) <= 30 && !strings.Contains(inner, "[") && shown(inner)
	}
	if isRef(w) {
		return api.Tok{Kind: api.TkRef, S: w}, len(w), true
	}
	if up := strings.ToUpper(w); up == "TRUE" || up == "FALSE" {
		return api.Tok{Kind: api.TkTruth, S: up}, len(w), true
	}
	return api.Tok{Kind: api.TkName, S: w}, len(w), isName(w)
}

func told(s string) ([]api.Tok, int, api.Errno) {
	if len(s) > 200 {
		return nil, 200, api.ErrLex
	}
	var list []api.Tok
	for at := 0; at < len(s); {
		if s[at] == ' ' {
			at++
			continue
		}
		tok, n, ok := begun(s[at:])
		if !ok {
			return nil, at, api.ErrLex
		}
		tok.At = at
		list = append(list, tok)
		at += n
	}
	return list, 0, api.OK
}

// dice are numbers that look like chance, and are the same in each run.
type dice uint64

func (d *dice) below(n int) int {
	*d = *d*6364136223846793005 + 1442695040888963407
	return int(uint64(*d)>>33) % n
}

// some is a text of parts that pieces are made of, and of some that break them.
func (d *dice) some(parts int) string {
	list := strings.Split(`A1|b2|$A$1|AZ200|BA1|A0|x|x.y|_a|$|$x|.|1|12|1.5|0.0000000001|1234567890123456|"|""|"a"|"a""b"|'|''|'S'!A1|'It''s'!$B$2|S!A1|S!|!|S!BA1|#N/A|#ref!|#DIV/0!|#|#NAME|T[a]|T[a b]|T[]|T[|]|A1[a]|[|TRUE|false|True(|IF(|sum(|A1(|$A(|(|)|<|>|=|<>|<=|>=|&|+|-|*|/|^|%|,|;|:|{|}|?|@|é|"é"|'é'!A1| | |  |LAMBDA(|`+strings.Repeat("n", 30)+"|"+strings.Repeat("n", 31)+"|\x00|\x7f|\xff|\t", "|")
	s := ""
	for range parts {
		s += list[d.below(len(list))]
	}
	return s
}
