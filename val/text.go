package val

import (
	"strings"

	"tabula/api"
	"tabula/dec"
	"tabula/letters"
)

// faults are the errors' texts by their numbers.
var faults = [...]string{
	api.VNull:  "#NULL!",
	api.VDiv:   "#DIV/0!",
	api.VValue: "#VALUE!",
	api.VRef:   "#REF!",
	api.VName:  "#NAME?",
	api.VNum:   "#NUM!",
	api.VNA:    "#N/A",
	api.VSpill: "#SPILL!",
	api.VCirc:  "#CIRC!",
}

// Text is v as it is put in, or, of an array, as a formula has it.
func Text(v api.Val) (string, api.Errno) {
	if !Right(v) {
		return "", api.ErrVal
	}
	switch v.Kind {
	case api.Func:
		return "LAMBDA", api.OK
	case api.Array:
		return grid(v), api.OK
	}
	return written(v, literal), api.OK
}

// Read is the value of what is put in; ErrVal, if that is a formula, or not right.
func Read(s string) (api.Val, api.Errno) {
	if strings.HasPrefix(s, "=") {
		return api.Val{}, api.ErrVal
	}
	if s == "" {
		return api.Val{}, api.OK
	}
	if n, err := dec.Read(s); err == api.OK {
		return number(n), api.OK
	}
	low := letters.Small(s)
	if b, ok := readTruth(low); ok {
		return truth(b), api.OK
	}
	for n, text := range faults {
		if low == letters.Small(text) {
			return fault(n), api.OK
		}
	}
	text := strings.TrimPrefix(s, "'")
	if !isText(text) {
		return api.Val{}, api.ErrVal
	}
	return api.Val{Kind: api.Text, S: text}, api.OK
}

func readTruth(low string) (bool, bool) {
	return low == "true", low == "true" || low == "false"
}

// written leaves to the closure how a text is written.
func written(v api.Val, text func(string) string) string {
	switch v.Kind {
	case api.Num:
		s, _ := dec.Text(v.N)
		return s
	case api.Text:
		return text(v.S)
	case api.Truth:
		if v.B {
			return "TRUE"
		}
		return "FALSE"
	case api.Fault:
		return faults[v.Err]
	}
	return ""
}

// literal has an apostrophe ahead only where the text would be read as another value.
func literal(s string) string {
	v, err := Read(s)
	if err == api.OK && v.Kind == api.Text && v.S == s {
		return s
	}
	return "'" + s
}

func quoted(s string) string {
	return `"` + strings.ReplaceAll(s, `"`, `""`) + `"`
}

func grid(v api.Val) string {
	var text strings.Builder
	for i, x := range v.L {
		switch {
		case i == 0:
			text.WriteByte('{')
		case i%v.Cols == 0:
			text.WriteByte(';')
		default:
			text.WriteByte(',')
		}
		text.WriteString(written(x, quoted))
	}
	text.WriteByte('}')
	return text.String()
}
