package plain_test

import (
	"testing"

	"tabula/api"
	"tabula/plain"
	"tabula/val"
)

// Plain values are right, and what dec tells is told as one of them.
func TestPlain(t *testing.T) {
	for i, c := range []struct{ got, want api.Val }{
		{plain.Number(api.Dec{M: 15, E: -1}), api.Val{Kind: api.Num, N: api.Dec{M: 15, E: -1}}},
		{plain.Text("x"), api.Val{Kind: api.Text, S: "x"}},
		{plain.Truth(true), api.Val{Kind: api.Truth, B: true}},
		{plain.Truth(false), api.Val{Kind: api.Truth}},
		{plain.Fault(api.VCirc), api.Val{Kind: api.Fault, Err: 9}},
		{plain.Decimal(api.Dec{M: 3}, api.OK), num(3)},
		{plain.Decimal(api.Dec{}, api.ErrZero), fault(api.VDiv)},
		{plain.Decimal(api.Dec{}, api.ErrDec), fault(api.VNum)},
		{plain.Decimal(api.Dec{}, api.ErrArg), fault(api.VNum)},
	} {
		if !val.Same(c.got, c.want) || !val.Right(c.got) {
			t.Errorf("value %d: %+v; want %+v", i, c.got, c.want)
		}
	}
}

// Whole numbers are those that dec tells a floor of, and nothing beside it.
func TestWhole(t *testing.T) {
	for d, want := range map[api.Dec]int{{}: 0, {M: 7}: 7, {M: -7}: -7, {M: 12, E: 3}: 12000, {M: api.MaxDigit}: api.MaxDigit, {M: -api.MaxDigit}: -api.MaxDigit, {M: 999999, E: 9}: 999999000000000} {
		if n, ok := plain.Whole(d); n != want || !ok {
			t.Errorf("Whole(%v): %d, %v", d, n, ok)
		}
	}
	for _, d := range []api.Dec{{M: 5, E: -1}, {M: -1, E: -9}, {M: 1000000, E: 9}, {M: api.MaxDigit, E: 1}, {M: 10}, {M: 1, E: 10}} {
		if n, ok := plain.Whole(d); n != 0 || ok {
			t.Errorf("Whole(%v): %d, %v", d, n, ok)
		}
	}
}

// Powers are told as dec tells them, of whole numbers alone.
func TestPower(t *testing.T) {
	for _, c := range []struct {
		a, b api.Dec
		want api.Val
	}{
		{api.Dec{M: 2}, api.Dec{M: 1, E: 1}, num(1024)},
		{api.Dec{M: 7}, api.Dec{}, num(1)},
		{api.Dec{M: 1}, api.Dec{M: -1, E: 2}, num(1)},
		{api.Dec{M: 1}, api.Dec{M: 101}, fault(api.VNum)},
		{api.Dec{M: 4}, api.Dec{M: 5, E: -1}, fault(api.VNum)},
		{api.Dec{M: 1, E: 9}, api.Dec{M: 3}, fault(api.VNum)},
		{api.Dec{}, api.Dec{M: -1}, fault(api.VDiv)},
	} {
		if got := plain.Power(c.a, c.b); !val.Same(got, c.want) {
			t.Errorf("Power(%v, %v): %+v; want %+v", c.a, c.b, got, c.want)
		}
	}
}
