package fun

import (
	"tabula/api"
	"tabula/dec"
	"tabula/plain"
)

func same(l ...api.Val) api.Val {
	return l[0]
}

func abs(l ...api.Val) api.Val {
	d := l[0].N
	d.M = max(d.M, -d.M)
	return plain.Number(d)
}

func sign(l ...api.Val) api.Val {
	return count(dec.Compare(l[0].N, api.Dec{}))
}

func integer(l ...api.Val) api.Val {
	return plain.Number(floor(l[0].N))
}

func truncated(l ...api.Val) api.Val {
	return plain.Number(trunc(l[0].N))
}

// floor asks dec only of what has a part: whole numbers may be too great for it.
func floor(d api.Dec) api.Dec {
	if d.E >= 0 {
		return d
	}
	n, _ := dec.Floor(d)
	d, _ = dec.Of(n)
	return d
}

func trunc(d api.Dec) api.Dec {
	if d.M >= 0 {
		return floor(d)
	}
	d = floor(api.Dec{M: -d.M, E: d.E})
	return api.Dec{M: -d.M, E: d.E}
}

// rounded leaves it to dec to refuse whole numbers that are too great.
func rounded(l ...api.Val) api.Val {
	digits, ok := plain.Whole(given(l, 1, 0))
	if !ok {
		return plain.Fault(api.VNum)
	}
	return plain.Decimal(dec.Round(l[0].N, digits))
}

func modulo(l ...api.Val) api.Val {
	by := plain.Decimal(dec.Div(l[0].N, l[1].N))
	if isFault(by) {
		return by
	}
	times := plain.Decimal(dec.Mul(l[1].N, floor(by.N)))
	if isFault(times) {
		return times
	}
	return plain.Decimal(dec.Sub(l[0].N, times.N))
}

func quotient(l ...api.Val) api.Val {
	by := plain.Decimal(dec.Div(l[0].N, l[1].N))
	if isFault(by) {
		return by
	}
	return plain.Number(trunc(by.N))
}

func power(l ...api.Val) api.Val {
	return plain.Power(l[0].N, l[1].N)
}

func factorial(l ...api.Val) api.Val {
	n, ok := whole(l[0].N, 0)
	if !ok || n > 17 {
		return plain.Fault(api.VNum)
	}
	times := 1
	for i := range n {
		times *= i + 1
	}
	return count(times)
}

// parity looks at the last digit, which a number that ends in noughts has as one of them.
func parity(even bool) func(l ...api.Val) api.Val {
	return func(l ...api.Val) api.Val {
		d := trunc(l[0].N)
		isEven := d.E > 0 || d.M%2 == 0
		return plain.Truth(isEven == even)
	}
}

// char leaves it to text to refuse a sign that no text has.
func char(l ...api.Val) api.Val {
	n, ok := whole(l[0].N, ' ')
	if !ok || n > 0x10ffff || n >= 0xd800 && n <= 0xdfff {
		return plain.Fault(api.VValue)
	}
	return text(string(rune(n)))
}
