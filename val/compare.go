package val

import (
	"cmp"

	"tabula/api"
	"tabula/dec"
	"tabula/letters"
)

// Compare is -1, 0 or 1, as a stands ahead of b, beside it or behind it; 0, if one is not right.
func Compare(a api.Val, b api.Val) int {
	if !Right(a) || !Right(b) {
		return 0
	}
	return order(a, b)
}

func order(a api.Val, b api.Val) int {
	if a.Kind != b.Kind {
		return cmp.Compare(a.Kind, b.Kind)
	}
	switch a.Kind {
	case api.Num:
		return dec.Compare(a.N, b.N)
	case api.Text:
		return orderOfTexts(a.S, b.S)
	case api.Truth:
		return cmp.Compare(digit(a.B), digit(b.B))
	case api.Fault:
		return cmp.Compare(a.Err, b.Err)
	case api.Array:
		return orderOfGrids(a, b)
	}
	return 0
}

func orderOfTexts(a string, b string) int {
	for i := range min(len(a), len(b)) {
		if c := cmp.Compare(letters.SmallByte(a[i]), letters.SmallByte(b[i])); c != 0 {
			return c
		}
	}
	return cmp.Compare(len(a), len(b))
}

func orderOfGrids(a api.Val, b api.Val) int {
	if c := cmp.Or(cmp.Compare(a.Rows, b.Rows), cmp.Compare(a.Cols, b.Cols)); c != 0 {
		return c
	}
	for i, x := range a.L {
		if c := order(x, b.L[i]); c != 0 {
			return c
		}
	}
	return 0
}

func digit(b bool) int {
	if b {
		return 1
	}
	return 0
}
