package val

import (
	"tabula/api"
	"tabula/dec"
	"tabula/letters"
)

// ToNum is v as a number, or an error.
func ToNum(v api.Val) api.Val {
	return told(v, func(x api.Val) api.Val {
		switch x.Kind {
		case api.Num:
			return number(x.N)
		case api.Truth:
			return number(api.Dec{M: digit(x.B)})
		case api.Text:
			n, err := dec.Read(x.S)
			if err != api.OK {
				return fault(api.VValue)
			}
			return number(n)
		}
		return number(api.Dec{})
	})
}

// ToText is v as a text, or an error.
func ToText(v api.Val) api.Val {
	return told(v, func(x api.Val) api.Val {
		return api.Val{Kind: api.Text, S: written(x, func(s string) string { return s })}
	})
}

// ToBool is v as a truth, or an error.
func ToBool(v api.Val) api.Val {
	return told(v, func(x api.Val) api.Val {
		switch x.Kind {
		case api.Num:
			return truth(x.N.M != 0)
		case api.Truth:
			return truth(x.B)
		case api.Text:
			b, ok := readTruth(letters.Small(x.S))
			if !ok {
				return fault(api.VValue)
			}
			return truth(b)
		}
		return truth(false)
	})
}

// told asks of what is neither an error nor an array by the closure, of an array one by one.
func told(v api.Val, ask func(api.Val) api.Val) api.Val {
	if !Right(v) || v.Kind == api.Func {
		return fault(api.VValue)
	}
	one := func(x api.Val) api.Val {
		if x.Kind == api.Fault {
			return fault(x.Err)
		}
		return ask(x)
	}
	if v.Kind != api.Array {
		return one(v)
	}
	list := make([]api.Val, len(v.L))
	for i, x := range v.L {
		list[i] = one(x)
	}
	return api.Val{Kind: api.Array, Rows: v.Rows, Cols: v.Cols, L: list}
}

func number(n api.Dec) api.Val {
	return api.Val{Kind: api.Num, N: n}
}

func truth(b bool) api.Val {
	return api.Val{Kind: api.Truth, B: b}
}
