// Package dec is layer 1: exact decimals.
package dec

import "tabula/api"

// Right says whether a is a decimal in the one form that its number has.
func Right(a api.Dec) bool {
	if a.M < -api.MaxDigit || a.M > api.MaxDigit || a.E < -api.MaxTen || a.E > api.MaxTen {
		return false
	}
	if a.M == 0 {
		return a.E == 0
	}
	return a.E == api.MaxTen || a.M%10 != 0
}

// Of is the decimal that is n; ErrDec, if there is none.
func Of(n int) (api.Dec, api.Errno) {
	a := trimmed(n, 0)
	if !Right(a) {
		return api.Dec{}, api.ErrDec
	}
	return a, api.OK
}

// Add is the nearest decimal of a + b.
func Add(a api.Dec, b api.Dec) (api.Dec, api.Errno) {
	p := pair{a, b}
	return p.tell(p.sum)
}

// Sub is the nearest decimal of a - b.
func Sub(a api.Dec, b api.Dec) (api.Dec, api.Errno) {
	p := pair{a, b}
	return p.tell(p.difference)
}

// Mul is the nearest decimal of a times b.
func Mul(a api.Dec, b api.Dec) (api.Dec, api.Errno) {
	p := pair{a, b}
	return p.tell(p.product)
}

// Div is the nearest decimal of a by b; ErrZero, if b is 0.
func Div(a api.Dec, b api.Dec) (api.Dec, api.Errno) {
	if Right(a) && b == (api.Dec{}) {
		return api.Dec{}, api.ErrZero
	}
	p := pair{a, b}
	return p.tell(p.quotient)
}

// Compare is -1, 0 or 1, as a is less than, equal to or greater than b; 0, if one is not right.
func Compare(a api.Dec, b api.Dec) int {
	if !Right(a) || !Right(b) {
		return 0
	}
	x := pair{a, b}.difference()
	switch {
	case none(x.at[:]):
		return 0
	case x.minus:
		return -1
	}
	return 1
}

// Round is a with so many digits behind the point, or with so many noughts ahead of it, if digits is below 0; a half goes away from 0.
func Round(a api.Dec, digits int) (api.Dec, api.Errno) {
	if !Right(a) {
		return api.Dec{}, api.ErrDec
	}
	if digits < -api.MaxTen || digits > api.MaxTen {
		return api.Dec{}, api.ErrArg
	}
	x := lay(a)
	unit := figures{minus: x.minus}
	cut := ahead + digits
	if x.at[cut] >= 5 {
		unit.at[cut-1] = 1
	}
	clear(x.at[cut:])
	return nearest(added(x, unit))
}

// Floor is the greatest whole number that is not above a; ErrDec, if it is beyond MaxDigit.
func Floor(a api.Dec) (int, api.Errno) {
	if !Right(a) {
		return 0, api.ErrDec
	}
	x := lay(a)
	n, ok := x.whole(0)
	switch {
	case !ok:
		return 0, api.ErrDec
	case !x.minus:
		return n, api.OK
	case none(x.at[ahead:]):
		return -n, api.OK
	}
	return -n - 1, api.OK
}

// Power is 1 multiplied by a, rounded each time, as often as n says; below 0, 1 by that.
func Power(a api.Dec, n int) (api.Dec, api.Errno) {
	if !Right(a) {
		return api.Dec{}, api.ErrDec
	}
	if n < -100 || n > 100 {
		return api.Dec{}, api.ErrArg
	}
	one := api.Dec{M: 1}
	x := one
	for range size(n) {
		y, err := Mul(x, a)
		if err != api.OK {
			return api.Dec{}, err
		}
		x = y
	}
	if n < 0 {
		return Div(one, x)
	}
	return x, api.OK
}
