package fun

import (
	"tabula/api"
	"tabula/dec"
	"tabula/letters"
	"tabula/plain"
	"tabula/val"
)

// count is for whole numbers that have a decimal: what there may be of anything.
func count(n int) api.Val {
	return plain.Decimal(dec.Of(n))
}

// text is VValue in place of what is too long for a text, or none.
func text(s string) api.Val {
	if len(s) > api.MaxText || !letters.IsText(s) {
		return plain.Fault(api.VValue)
	}
	return plain.Text(s)
}

func isKind(kind int) func(api.Val) bool {
	return func(v api.Val) bool { return v.Kind == kind }
}

func isFault(v api.Val) bool {
	return v.Kind == api.Fault
}

func isNA(v api.Val) bool {
	return v.Kind == api.Fault && v.Err == api.VNA
}

func isBeside(a api.Val, b api.Val) bool {
	return val.Compare(a, b) == 0
}

// whole is the whole number that d is; false, if it is none from least on, or too great for one.
func whole(d api.Dec, least int) (int, bool) {
	n, ok := plain.Whole(d)
	return n, ok && n >= least
}

// single is one number, or an error: an array is none.
func single(v api.Val) api.Val {
	v = val.ToNum(v)
	if v.Kind == api.Array {
		return plain.Fault(api.VValue)
	}
	return v
}

// place is a whole number from 1 on, or an error.
func place(v api.Val) (int, api.Val) {
	v = single(v)
	if isFault(v) {
		return 0, v
	}
	n, ok := whole(v.N, 1)
	if !ok {
		return 0, plain.Fault(api.VValue)
	}
	return n, v
}

// given is the number in a place of l, or another one, if it is left out.
func given(l []api.Val, i int, otherwise int) api.Dec {
	if i < len(l) {
		return l[i].N
	}
	return api.Dec{M: otherwise}
}

func flat(l ...api.Val) []api.Val {
	var list []api.Val
	for _, v := range l {
		if v.Kind == api.Array {
			list = append(list, v.L...)
		} else {
			list = append(list, v)
		}
	}
	return list
}

// always tells the same, whatever it is asked.
func always(v api.Val) func(l ...api.Val) api.Val {
	return func(...api.Val) api.Val { return v }
}

// whether tells if its value is so.
func whether(is func(api.Val) bool) func(l ...api.Val) api.Val {
	return func(l ...api.Val) api.Val { return plain.Truth(is(l[0])) }
}
