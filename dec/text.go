package dec

import (
	"strings"

	"tabula/api"
)

// Text is a in digits, without noughts that say nothing.
func Text(a api.Dec) (string, api.Errno) {
	if !Right(a) {
		return "", api.ErrDec
	}
	x := lay(a)
	first, end := 0, len(x.at)
	for first < ahead-1 && x.at[first] == 0 {
		first++
	}
	for end > ahead && x.at[end-1] == 0 {
		end--
	}
	var text strings.Builder
	if x.minus {
		text.WriteByte('-')
	}
	for i := first; i < end; i++ {
		if i == ahead {
			text.WriteByte('.')
		}
		text.WriteByte('0' + x.at[i])
	}
	return text.String(), api.OK
}

// Read is the decimal that a text is; ErrText, if it is no number, ErrDec, if no decimal is that number.
func Read(s string) (api.Dec, api.Errno) {
	x, ok := written(s)
	if !ok {
		return api.Dec{}, api.ErrText
	}
	a, err := nearest(x)
	if err != api.OK || lay(a).at != x.at {
		return api.Dec{}, api.ErrDec
	}
	return a, api.OK
}

// written rounds nothing: Read must tell a number that no decimal is.
func written(s string) (figures, bool) {
	body, minus := strings.CutPrefix(s, "-")
	whole, part, pointed := strings.Cut(body, ".")
	if !areDigits(whole) || pointed && !areDigits(part) {
		return figures{}, false
	}
	x := figures{minus: minus}
	for i, c := range []byte(whole) {
		x.at[ahead-len(whole)+i] = c - '0'
	}
	for i, c := range []byte(part) {
		x.at[ahead+i] = c - '0'
	}
	return x, true
}

func areDigits(s string) bool {
	if s == "" || len(s) > 40 {
		return false
	}
	for _, c := range []byte(s) {
		if c < '0' || c > '9' {
			return false
		}
	}
	return true
}
