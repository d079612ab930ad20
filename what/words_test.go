package what_test

import (
	"tabula/api"
	"tabula/book"
	"tabula/calc"
	"tabula/dec"
)

// tried is what Try tells, by the chapter's words.
func tried(b api.Book, at api.At, input string, out api.At, now api.Dec) (api.Val, api.Errno) {
	set, err := book.Set(b, at, input)
	if err != api.OK {
		return api.Val{}, err
	}
	return calc.Cell(set, out, now)
}

// sought is what Seek tells of right arguments, by the chapter's words, and how many halves were gone through.
func sought(b api.Book, at api.At, out api.At, goal api.Dec, low api.Dec, high api.Dec, now api.Dec) (api.Dec, api.Errno, int) {
	failed := api.OK
	makes := func(n api.Dec) api.Dec {
		text, _ := dec.Text(n)
		v, err := tried(b, at, text, out, now)
		if failed == api.OK && err != api.OK {
			failed = err
		}
		if failed == api.OK && v.Kind != api.Num {
			failed = api.ErrSeek
		}
		return v.N
	}
	is := func(a, b, c api.Dec) bool {
		return dec.Compare(a, b) <= 0 && dec.Compare(b, c) <= 0 || dec.Compare(c, b) <= 0 && dec.Compare(b, a) <= 0
	}
	a := makes(low)
	if failed != api.OK {
		return api.Dec{}, failed, 0
	}
	if a == goal {
		return low, api.OK, 0
	}
	c := makes(high)
	if failed != api.OK {
		return api.Dec{}, failed, 0
	}
	if c == goal {
		return high, api.OK, 0
	}
	if !is(a, goal, c) {
		return api.Dec{}, api.ErrSeek, 0
	}
	rounds := 0
	for rounds < 50 {
		sum, err := dec.Add(low, high)
		if err != api.OK {
			return api.Dec{}, api.ErrSeek, rounds
		}
		half, _ := dec.Div(sum, api.Dec{M: 2})
		m, _ := dec.Round(half, 6)
		if dec.Compare(m, low) <= 0 || dec.Compare(m, high) >= 0 {
			break
		}
		rounds++
		x := makes(m)
		switch {
		case failed != api.OK:
			return api.Dec{}, failed, rounds
		case x == goal:
			return m, api.OK, rounds
		case is(a, goal, x):
			high, c = m, x
		default:
			low, a = m, x
		}
	}
	x, wrong := dec.Sub(a, goal)
	y, err := dec.Sub(c, goal)
	if wrong != api.OK || err != api.OK {
		return api.Dec{}, api.ErrSeek, rounds
	}
	if x.M < 0 {
		x.M = -x.M
	}
	if y.M < 0 {
		y.M = -y.M
	}
	if dec.Compare(x, y) <= 0 {
		return low, api.OK, rounds
	}
	return high, api.OK, rounds
}
