package mach

import (
	"tabula/api"
	"tabula/dec"
	"tabula/plain"
	"tabula/val"
)

// operator does an operator with two values, of arrays one by one.
func operator(op string, a api.Val, b api.Val) api.Val {
	return plain.Each([]api.Val{a, b}, func(l []api.Val) api.Val {
		a, b := valued(l[0]), valued(l[1])
		switch {
		case a.Kind == api.Fault:
			return a
		case b.Kind == api.Fault:
			return b
		}
		switch op {
		case "&":
			return joined(a, b)
		case "+", "-", "*", "/", "^":
			return reckoned(op, val.ToNum(a), val.ToNum(b))
		}
		return plain.Truth(compared(op, val.Compare(beside(a, b), beside(b, a))))
	})
}

// ahead does a sign ahead.
func ahead(op string, v api.Val) api.Val {
	return each(v, func(d api.Dec) api.Val {
		if op == "-" {
			return plain.Decimal(dec.Sub(api.Dec{}, d))
		}
		return plain.Number(d)
	})
}

func percent(v api.Val) api.Val {
	return each(v, func(d api.Dec) api.Val {
		return plain.Decimal(dec.Mul(d, api.Dec{M: 1, E: -2}))
	})
}

// each does with a number, of arrays one by one, what errors are left out of.
func each(v api.Val, do func(api.Dec) api.Val) api.Val {
	return plain.Each([]api.Val{v}, func(l []api.Val) api.Val {
		n := val.ToNum(l[0])
		if n.Kind == api.Fault {
			return n
		}
		return do(n.N)
	})
}

// valued is an error in place of a function.
func valued(v api.Val) api.Val {
	if v.Kind == api.Func {
		return plain.Fault(api.VValue)
	}
	return v
}

func joined(a api.Val, b api.Val) api.Val {
	s := val.ToText(a).S + val.ToText(b).S
	if len(s) > api.MaxText {
		return plain.Fault(api.VValue)
	}
	return plain.Text(s)
}

func reckoned(op string, a api.Val, b api.Val) api.Val {
	switch {
	case a.Kind == api.Fault:
		return a
	case b.Kind == api.Fault:
		return b
	}
	switch op {
	case "+":
		return plain.Decimal(dec.Add(a.N, b.N))
	case "-":
		return plain.Decimal(dec.Sub(a.N, b.N))
	case "*":
		return plain.Decimal(dec.Mul(a.N, b.N))
	case "/":
		return plain.Decimal(dec.Div(a.N, b.N))
	}
	return plain.Power(a.N, b.N)
}

// beside is what an empty value counts as beside another one.
func beside(v api.Val, other api.Val) api.Val {
	if v.Kind != api.Empty {
		return v
	}
	return api.Val{Kind: other.Kind}
}

// compared tells by how two values stand: -1 ahead, 0 beside, 1 behind.
func compared(op string, stand int) bool {
	switch op {
	case "<=":
		if stand == 0 {
			return true
		}
		fallthrough
	case "<":
		return stand < 0
	case ">=":
		if stand == 0 {
			return true
		}
		fallthrough
	case ">":
		return stand > 0
	case "<>":
		return stand != 0
	}
	return stand == 0
}
