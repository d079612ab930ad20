package ref

import (
	"strconv"
	"strings"

	"tabula/api"
	"tabula/letters"
)

// torn is how a reference is written whose cell is gone.
const torn = "#REF!"

// Text is r as formulas have it.
func Text(r api.Ref) (string, api.Errno) {
	if !Right(r) {
		return "", api.ErrRef
	}
	if r.Bad {
		return torn, api.OK
	}
	var text strings.Builder
	if r.Sheet != "" {
		text.WriteString(written(r.Sheet))
		text.WriteByte('!')
	}
	fix := func(fixed bool) {
		if fixed {
			text.WriteByte('$')
		}
	}
	column, _ := Column(r.Col)
	fix(r.FixCol)
	text.WriteString(column)
	fix(r.FixRow)
	text.WriteString(strconv.Itoa(r.Row + 1))
	return text.String(), api.OK
}

// Read is the reference that s says; ErrRef, if it says none.
func Read(s string) (api.Ref, api.Errno) {
	if s == torn {
		return api.Ref{Bad: true}, api.OK
	}
	sheet, rest, ok := cutSheet(s)
	if !ok {
		return api.Ref{}, api.ErrRef
	}
	r := api.Ref{Sheet: sheet}
	fixed := func() bool {
		after, found := strings.CutPrefix(rest, "$")
		rest = after
		return found
	}
	take := func(is func(rune) bool) string {
		behind := strings.TrimLeftFunc(rest, is)
		part := rest[:len(rest)-len(behind)]
		rest = behind
		return part
	}
	r.FixCol = fixed()
	column, err := ReadColumn(take(letters.IsLetter))
	r.FixRow = fixed()
	row, found := readRow(take(letters.IsDigit))
	if err != api.OK || !found || rest != "" {
		return api.Ref{}, api.ErrRef
	}
	r.Row, r.Col = row, column
	return r, api.OK
}

// cutSheet parts a sheet's name, if there is one ahead, from what stands behind its exclamation mark.
func cutSheet(s string) (string, string, bool) {
	if quoted, found := strings.CutPrefix(s, "'"); found {
		return cutQuoted(quoted)
	}
	name, rest, found := strings.Cut(s, "!")
	if !found {
		return "", s, true
	}
	return name, rest, isPlain(name) && isSheet(name)
}

// cutQuoted is given what stands behind the first apostrophe.
func cutQuoted(s string) (string, string, bool) {
	var name strings.Builder
	for {
		part, behind, _ := strings.Cut(s, "'")
		name.WriteString(part)
		if rest, ends := strings.CutPrefix(behind, "!"); ends {
			return name.String(), rest, isSheet(name.String())
		}
		rest, doubled := strings.CutPrefix(behind, "'")
		if !doubled {
			return "", "", false
		}
		name.WriteByte('\'')
		s = rest
	}
}

// readRow takes no noughts ahead.
func readRow(digits string) (int, bool) {
	if strings.HasPrefix(digits, "0") {
		return 0, false
	}
	n, err := strconv.Atoi(digits)
	if err != nil || n > api.MaxRows {
		return 0, false
	}
	return n - 1, true
}

func written(name string) string {
	if isPlain(name) {
		return name
	}
	return "'" + strings.ReplaceAll(name, "'", "''") + "'"
}

// isPlain leaves it to isSheet to refuse an empty name.
func isPlain(name string) bool {
	for i, c := range name {
		switch {
		case letters.IsLetter(c), c == '_':
		case letters.IsDigit(c) && i > 0:
		default:
			return false
		}
	}
	return true
}

func isSheet(name string) bool {
	return name != "" && len(name) <= api.MaxName && letters.IsText(name)
}
