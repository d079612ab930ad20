// Package plain makes plain values, and does with arrays, one by one, what is done with them.
package plain

import (
	"tabula/api"
	"tabula/dec"
)

// Number is the value of a decimal.
func Number(d api.Dec) api.Val {
	return api.Val{Kind: api.Num, N: d}
}

// Text is the value of a text.
func Text(s string) api.Val {
	return api.Val{Kind: api.Text, S: s}
}

// Truth is the value of a truth.
func Truth(b bool) api.Val {
	return api.Val{Kind: api.Truth, B: b}
}

// Fault is the error of a number as a value.
func Fault(n int) api.Val {
	return api.Val{Kind: api.Fault, Err: n}
}

// Decimal is what dec tells, its errors as values.
func Decimal(d api.Dec, err api.Errno) api.Val {
	switch err {
	case api.OK:
		return Number(d)
	case api.ErrZero:
		return Fault(api.VDiv)
	}
	return Fault(api.VNum)
}

// Whole is the whole number that d is; false, if it is none, or too great for one.
func Whole(d api.Dec) (int, bool) {
	n, err := dec.Floor(d)
	if err != api.OK {
		return 0, false
	}
	back, err := dec.Of(n)
	if err != api.OK || back != d {
		return 0, false
	}
	return n, true
}

// Power is a decimal to the power of another one, which has to be whole; dec itself refuses whole numbers that are too great.
func Power(a api.Dec, b api.Dec) api.Val {
	n, ok := Whole(b)
	if !ok {
		return Fault(api.VNum)
	}
	return Decimal(dec.Power(a, n))
}
