package lex

import (
	"strings"

	"tabula/api"
	"tabula/dec"
	"tabula/letters"
)

// faults are the errors as formulas have them.
var faults = [...]string{"#NULL!", "#DIV/0!", "#VALUE!", torn, "#NAME?", "#NUM!", "#N/A", "#SPILL!", "#CIRC!"}

// torn is written like an error, but it is a reference.
const torn = "#REF!"

// reader has what of a formula is not told yet.
type reader struct {
	rest string
}

// begun is what reads the piece whose first sign is ahead.
func (r *reader) begun() func() (api.Tok, bool) {
	c := first(r.rest)
	switch {
	case letters.IsDigit(c):
		return r.number
	case c == '"':
		return r.text
	case c == '#':
		return r.fault
	case c == '\'':
		return r.quoted
	case isFirst(c):
		return r.word
	}
	return r.sign
}

func (r *reader) number() (api.Tok, bool) {
	s := r.take(letters.IsDigit)
	if part, found := strings.CutPrefix(r.rest, "."); found && letters.IsDigit(first(part)) {
		r.rest = part
		s += "." + r.take(letters.IsDigit)
	}
	_, err := dec.Read(s)
	return api.Tok{Kind: api.TkNum, S: s}, err == api.OK
}

func (r *reader) text() (api.Tok, bool) {
	whole, ok := r.between('"')
	if !ok {
		return api.Tok{}, false
	}
	s := strings.ReplaceAll(whole[1:len(whole)-1], `""`, `"`)
	return api.Tok{Kind: api.TkText, S: s}, letters.IsText(s)
}

func (r *reader) fault() (api.Tok, bool) {
	low := letters.Great(r.rest)
	for _, s := range faults {
		if !strings.HasPrefix(low, s) {
			continue
		}
		r.rest = r.rest[len(s):]
		if s == torn {
			return api.Tok{Kind: api.TkRef, S: s}, true
		}
		return api.Tok{Kind: api.TkFault, S: s}, true
	}
	return api.Tok{}, false
}

func (r *reader) quoted() (api.Tok, bool) {
	sheet, ok := r.between('\'')
	if !ok || first(r.rest) != '!' {
		return api.Tok{}, false
	}
	return r.behind(sheet)
}

func (r *reader) word() (api.Tok, bool) {
	word := r.take(isWord)
	switch first(r.rest) {
	case '!':
		return r.behind(word)
	case '(':
		if len(word) <= api.MaxName && !strings.Contains(word, "$") {
			return api.Tok{Kind: api.TkCall, S: word}, true
		}
	case '[':
		if IsName(word) {
			return r.column(word)
		}
	}
	switch {
	case isRef(word):
		return api.Tok{Kind: api.TkRef, S: word}, true
	case isTruth(word):
		return api.Tok{Kind: api.TkTruth, S: letters.Great(word)}, true
	}
	return api.Tok{Kind: api.TkName, S: word}, IsName(word)
}

func (r *reader) sign() (api.Tok, bool) {
	for _, n := range []int{2, 1} {
		if n <= len(r.rest) && isSigns(r.rest[:n]) {
			s := r.rest[:n]
			r.rest = r.rest[n:]
			return api.Tok{Kind: api.TkSign, S: s}, true
		}
	}
	return api.Tok{}, false
}

// behind is the reference on a sheet, whose exclamation mark is ahead.
func (r *reader) behind(sheet string) (api.Tok, bool) {
	r.rest = r.rest[1:]
	s := sheet + "!" + r.take(isCell)
	return api.Tok{Kind: api.TkRef, S: s}, isRef(s)
}

// column is that of a table, whose bracket is ahead.
func (r *reader) column(table string) (api.Tok, bool) {
	name, rest, found := strings.Cut(r.rest[1:], "]")
	if !found || name == "" || len(name) > api.MaxName || strings.Contains(name, "[") || !letters.IsText(name) {
		return api.Tok{}, false
	}
	r.rest = rest
	return api.Tok{Kind: api.TkCol, S: table + "[" + name + "]"}, true
}

// between takes what stands between two marks, with them; false, if the second one is missing.
func (r *reader) between(mark byte) (string, bool) {
	for i := 1; i < len(r.rest); i++ {
		if r.rest[i] != mark {
			continue
		}
		if i+1 < len(r.rest) && r.rest[i+1] == mark {
			i++
			continue
		}
		whole := r.rest[:i+1]
		r.rest = r.rest[i+1:]
		return whole, true
	}
	return "", false
}

// take takes all signs ahead that are so.
func (r *reader) take(is func(rune) bool) string {
	for i, c := range r.rest {
		if !is(c) {
			s := r.rest[:i]
			r.rest = r.rest[i:]
			return s
		}
	}
	s := r.rest
	r.rest = ""
	return s
}
