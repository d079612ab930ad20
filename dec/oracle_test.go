package dec_test

// What the chapter says of decimals, reckoned by fractions instead of digits, so that it shares nothing with the program.

import (
	"math"
	"math/big"
	"testing"

	"tabula/api"
	"tabula/dec"
)

// powers are those of ten from -20 on, made once: the tests ask for them very often.
var powers = func() []*big.Rat {
	var list []*big.Rat
	for e := -20; e <= 20; e++ {
		list = append(list, powerOfTen(e))
	}
	return list
}()

// tenTo is ten to e as a fraction, which must not be written into.
func tenTo(e int) *big.Rat {
	return powers[e+20]
}

func powerOfTen(e int) *big.Rat {
	n := new(big.Int).Exp(big.NewInt(10), big.NewInt(int64(max(e, -e))), nil)
	x := new(big.Rat).SetInt(n)
	if e < 0 {
		x.Inv(x)
	}
	return x
}

// fraction is a decimal's number.
func fraction(a api.Dec) *big.Rat {
	x := new(big.Rat).SetInt64(int64(a.M))
	return x.Mul(x, tenTo(a.E))
}

// floorOf is the greatest whole number that is not above x.
func floorOf(x *big.Rat) *big.Int {
	return new(big.Int).Div(x.Num(), x.Denom())
}

// roundedTo is the whole number nearest to x; of two as near the even one, or the one further from 0.
func roundedTo(x *big.Rat, even bool) *big.Int {
	low := floorOf(x)
	high := new(big.Int).Add(low, big.NewInt(1))
	half := new(big.Rat).Sub(x, new(big.Rat).SetInt(low)).Cmp(big.NewRat(1, 2))
	switch {
	case half < 0:
		return low
	case half > 0:
		return high
	case even && low.Bit(0) == 0, !even && x.Sign() < 0:
		return low
	}
	return high
}

// form is the right decimal that x is, sought among all powers of ten.
func form(x *big.Rat) (api.Dec, bool) {
	for e := -api.MaxTen; e <= api.MaxTen; e++ {
		m := new(big.Rat).Quo(x, tenTo(e))
		if !m.IsInt() || !m.Num().IsInt64() {
			continue
		}
		a := api.Dec{M: int(m.Num().Int64()), E: e}
		if isRight(a) {
			return a, true
		}
	}
	return api.Dec{}, false
}

// isRight is what P1.1 says.
func isRight(a api.Dec) bool {
	if a.M == 0 {
		return a.E == 0
	}
	inside := a.M >= -999999999999999 && a.M <= 999999999999999 && a.E >= -9 && a.E <= 9
	return inside && (a.M%10 != 0 || a.E == 9)
}

// nearestTo is what P1.2 says; nil: there is none.
func nearestTo(x *big.Rat) *api.Dec {
	for e := -api.MaxTen; e <= api.MaxTen; e++ {
		m := roundedTo(new(big.Rat).Quo(x, tenTo(e)), true)
		if m.CmpAbs(big.NewInt(api.MaxDigit)) > 0 {
			continue
		}
		a, ok := form(new(big.Rat).Mul(new(big.Rat).SetInt(m), tenTo(e)))
		if !ok {
			panic("a number has no form")
		}
		return &a
	}
	return nil
}

// edges are right decimals at the limits, at ties, of few digits and of many, of both signs.
func edges() []api.Dec {
	list := []api.Dec{{}}
	for _, m := range []int{1, 2, 3, 5, 7, 9, 15, 25, 99, 125, 333333333, 500000001, 999999999, 12345678987654, 99999999999999, 100000000000001, 123456789012345, 499999999999999, 500000000000001, 999999999999995, 999999999999998, 999999999999999} {
		for _, e := range []int{-9, -8, -5, -1, 0, 1, 5, 8, 9} {
			list = append(list, api.Dec{M: m, E: e}, api.Dec{M: -m, E: e})
		}
	}
	for _, m := range []int{10, 500, 1000000000, 100000000000000, 999999999999990} {
		list = append(list, api.Dec{M: m, E: 9}, api.Dec{M: -m, E: 9})
	}
	return list
}

// wrongs are decimals that are not right.
func wrongs() []api.Dec {
	return []api.Dec{
		{E: 1}, {E: -1}, {E: 9}, {E: -9}, {M: 10}, {M: -10}, {M: 120, E: 8}, {M: 10, E: -9}, {M: 999999999999990, E: 8},
		{M: 1000000000000000}, {M: -1000000000000000}, {M: 1000000000000000, E: 9}, {M: 1000000000000001}, {M: -1000000000000001, E: -9},
		{M: 1, E: 10}, {M: 1, E: -10}, {M: -1, E: 10}, {M: 10, E: 10}, {E: 10}, {M: 999999999999999, E: 10},
		{M: math.MaxInt}, {M: math.MinInt}, {M: math.MinInt, E: 9}, {M: 1, E: math.MaxInt}, {M: 1, E: math.MinInt}, {M: math.MinInt, E: math.MinInt}, {M: math.MaxInt, E: math.MaxInt},
	}
}

// dice are numbers that look as if they were thrown, the same ones each time.
type dice uint64

func (d *dice) below(n int) int {
	*d = *d*6364136223846793005 + 1442695040888963407
	return int(uint64(*d>>33) % uint64(n))
}

// digits are n digits, the first one not 0; often of few kinds, so that there are ties and carries.
func (d *dice) digits(n int) string {
	kinds := []string{"0123456789", "09", "05", "9", "0005", "4599"}[d.below(6)]
	b := make([]byte, n)
	for i := range b {
		b[i] = kinds[d.below(len(kinds))]
	}
	if b[0] == '0' {
		b[0] = '1'
	}
	return string(b)
}

// decimal is a right decimal.
func (d *dice) decimal() api.Dec {
	m := 0
	for _, c := range d.digits(1 + d.below(15)) {
		m = m*10 + int(c-'0')
	}
	if d.below(2) == 0 {
		m = -m
	}
	a, ok := form(new(big.Rat).Mul(big.NewRat(int64(m), 1), tenTo(d.below(19)-9)))
	if !ok {
		return api.Dec{}
	}
	return a
}

// pairs are all pairs of edges, and many thrown ones.
func pairs(each func(a, b api.Dec)) {
	list := edges()
	for i := 0; i < len(list); i += 13 {
		for _, b := range list {
			each(list[i], b)
		}
	}
	d := dice(1)
	for range 10000 {
		each(d.decimal(), d.decimal())
	}
}

// read is the decimal of a text that is one.
func read(t *testing.T, s string) api.Dec {
	t.Helper()
	a, err := dec.Read(s)
	if err != api.OK {
		t.Fatalf("Read(%q): error %d", s, err)
	}
	return a
}

// held tells if an answer is not the decimal that is wanted (none: ErrDec).
func held(t *testing.T, call string, a, b any, got api.Dec, err api.Errno, want *api.Dec) {
	t.Helper()
	if want == nil {
		if err != api.ErrDec || got != (api.Dec{}) {
			t.Errorf("%s(%v, %v): %v, error %d; want ErrDec", call, a, b, got, err)
		}
		return
	}
	if err != api.OK || got != *want {
		t.Errorf("%s(%v, %v): %v, error %d; want %v", call, a, b, got, err, *want)
	}
}

// refused tells if an answer is not that error alone.
func refused(t *testing.T, call string, a, b any, got api.Dec, err api.Errno, want api.Errno) {
	t.Helper()
	if err != want || got != (api.Dec{}) {
		t.Errorf("%s(%v, %v): %v, error %d; want error %d", call, a, b, got, err, want)
	}
}
