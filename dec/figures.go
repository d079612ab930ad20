package dec

import (
	"slices"

	"tabula/api"
)

// The greatest product of two right decimals has 48 digits ahead of the point, and a text may have 40 behind it: whatever is told of decimals is cut from an array that holds it whole, so that it is rounded once only.
const (
	ahead  = 48
	behind = 40
)

// figures is a number digit by digit, the greatest first; at[ahead-1] is that of the ones.
type figures struct {
	minus bool
	at    [ahead + behind]byte
}

// lay lays a number's digits. Its ten may be that of a product or a quotient, and so be beyond MaxTen.
func lay(a api.Dec) figures {
	x := figures{minus: a.M < 0}
	rest := size(a.M)
	for i := ahead - 1 - a.E; rest > 0; i-- {
		x.at[i] = byte(rest % 10)
		rest /= 10
	}
	return x
}

func size(n int) int {
	if n < 0 {
		return -n
	}
	return n
}

func none(digits []byte) bool {
	return slices.Max(digits) == 0
}

// added is the sum of two numbers. Of different signs x must be the one that is not less without its sign: what is borrowed would run out of the array else.
func added(x figures, y figures) figures {
	sign := 1
	if x.minus != y.minus {
		sign = -1
	}
	carry := 0
	for i := len(x.at) - 1; i >= 0; i-- {
		n := 10 + int(x.at[i]) + sign*int(y.at[i]) + carry
		x.at[i] = byte(n % 10)
		carry = n/10 - 1
	}
	return x
}

func times(x figures, m int) figures {
	carry := 0
	for i := len(x.at) - 1; i >= 0; i-- {
		n := int(x.at[i])*m + carry
		x.at[i] = byte(n % 10)
		carry = n / 10
	}
	return x
}

// whole is without its sign, and stops at the first digit that leads beyond MaxDigit: all of them would not go into an int.
func (x *figures) whole(e int) (int, bool) {
	n := 0
	for _, digit := range x.at[:ahead-e] {
		n = n*10 + int(digit)
		if n > api.MaxDigit {
			return 0, false
		}
	}
	return n, true
}

// even rounds the number itself at each e that is tried, never what was rounded ahead, lest a half be made of less.
func (x *figures) even(e int) (int, bool) {
	n, ok := x.whole(e)
	if !ok {
		return 0, false
	}
	if goesUp(n, x.at[ahead-e:]) {
		n++
	}
	if n > api.MaxDigit {
		return 0, false
	}
	return n, true
}

// goesUp looks at all that is cut off: a half is one only if nothing stands behind it.
func goesUp(n int, rest []byte) bool {
	if rest[0] != 5 {
		return rest[0] > 5
	}
	return n%2 == 1 || !none(rest[1:])
}

func nearest(x figures) (api.Dec, api.Errno) {
	for e := -api.MaxTen; e <= api.MaxTen; e++ {
		n, ok := x.even(e)
		if !ok {
			continue
		}
		if x.minus {
			n = -n
		}
		return trimmed(n, e), api.OK
	}
	return api.Dec{}, api.ErrDec
}

// trimmed makes the one form that a number has, where it has one.
func trimmed(m int, e int) api.Dec {
	if m == 0 {
		return api.Dec{}
	}
	for e < api.MaxTen && m%10 == 0 {
		m /= 10
		e++
	}
	return api.Dec{M: m, E: e}
}
