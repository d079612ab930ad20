package fun

import (
	"slices"

	"tabula/api"
	"tabula/dec"
	"tabula/plain"
	"tabula/val"
)

// lines are an array's rows; another value is one row of one.
func lines(v api.Val) [][]api.Val {
	if v.Kind != api.Array {
		return [][]api.Val{{v}}
	}
	var list [][]api.Val
	for row := range slices.Chunk(v.L, v.Cols) {
		list = append(list, row)
	}
	return list
}

func array(cols int, l []api.Val) api.Val {
	return api.Val{Kind: api.Array, Rows: len(l) / cols, Cols: cols, L: l}
}

// laid is the array of some rows, of which there is one at least.
func laid(list [][]api.Val) api.Val {
	return array(len(list[0]), slices.Concat(list...))
}

func rows(l ...api.Val) api.Val {
	if isFault(l[0]) {
		return l[0]
	}
	return count(len(lines(l[0])))
}

func columns(l ...api.Val) api.Val {
	if isFault(l[0]) {
		return l[0]
	}
	return count(len(lines(l[0])[0]))
}

func index(l ...api.Val) api.Val {
	if isFault(l[0]) {
		return l[0]
	}
	at := []int{1, 1}
	for i, v := range l[1:] {
		k, told := place(v)
		if isFault(told) {
			return told
		}
		at[i] = k
	}
	list := lines(l[0])
	if len(l) == 2 && len(list) == 1 {
		at[0], at[1] = at[1], at[0]
	}
	if at[0] > len(list) || at[1] > len(list[0]) {
		return plain.Fault(api.VRef)
	}
	return list[at[0]-1][at[1]-1]
}

func match(l ...api.Val) api.Val {
	switch l[0].Kind {
	case api.Fault:
		return l[0]
	case api.Array:
		return plain.Fault(api.VValue)
	}
	i := slices.IndexFunc(flat(l[1]), func(v api.Val) bool { return isBeside(v, l[0]) })
	if i < 0 {
		return plain.Fault(api.VNA)
	}
	return count(i + 1)
}

func transpose(l ...api.Val) api.Val {
	v := l[0]
	if v.Kind != api.Array {
		return v
	}
	list := make([]api.Val, 0, len(v.L))
	for col := range v.Cols {
		for row := range v.Rows {
			list = append(list, v.L[row*v.Cols+col])
		}
	}
	return array(v.Rows, list)
}

func sequence(l ...api.Val) api.Val {
	told := make([]api.Val, len(l))
	for i, v := range l {
		told[i] = single(v)
		if isFault(told[i]) {
			return told[i]
		}
	}
	rows, some := whole(told[0].N, 1)
	cols, more := whole(given(told, 1, 1), 1)
	if !some || !more || cols > api.MaxArray/rows {
		return plain.Fault(api.VValue)
	}
	first, step := given(told, 2, 1), given(told, 3, 1)
	var list []api.Val
	for k := range rows * cols {
		v := plain.Decimal(dec.Mul(count(k).N, step))
		if !isFault(v) {
			v = plain.Decimal(dec.Add(first, v.N))
		}
		list = append(list, v)
	}
	return array(cols, list)
}

func unique(l ...api.Val) api.Val {
	if l[0].Kind != api.Array {
		return l[0]
	}
	var kept [][]api.Val
	for _, row := range lines(l[0]) {
		if !slices.ContainsFunc(kept, func(other []api.Val) bool { return slices.EqualFunc(row, other, isBeside) }) {
			kept = append(kept, row)
		}
	}
	return laid(kept)
}

func sort(l ...api.Val) api.Val {
	if isFault(l[0]) {
		return l[0]
	}
	by := 1
	if len(l) == 2 {
		k, told := place(l[1])
		if isFault(told) {
			return told
		}
		by = k
	}
	list := lines(l[0])
	if by > len(list[0]) {
		return plain.Fault(api.VValue)
	}
	if l[0].Kind != api.Array {
		return l[0]
	}
	slices.SortStableFunc(list, func(a, b []api.Val) int { return val.Compare(a[by-1], b[by-1]) })
	return laid(list)
}

// filter leaves it to val.ToBool to refuse a function as second value.
func filter(l ...api.Val) api.Val {
	if isFault(l[0]) {
		return l[0]
	}
	list, asked := lines(l[0]), lines(l[1])
	if l[0].Kind == api.Func || len(asked[0]) != 1 || len(asked) != len(list) {
		return plain.Fault(api.VValue)
	}
	var kept [][]api.Val
	for i, row := range asked {
		told := val.ToBool(row[0])
		if isFault(told) {
			return told
		}
		if told.B {
			kept = append(kept, list[i])
		}
	}
	switch {
	case len(kept) > 0:
		return laid(kept)
	case len(l) == 3:
		return l[2]
	}
	return plain.Fault(api.VNA)
}

func lookUp(l ...api.Val) api.Val {
	switch l[0].Kind {
	case api.Fault:
		return l[0]
	case api.Array:
		return plain.Fault(api.VValue)
	}
	col, told := place(l[2])
	if isFault(told) {
		return told
	}
	for _, row := range lines(l[1]) {
		if !isBeside(row[0], l[0]) {
			continue
		}
		if col > len(row) {
			return plain.Fault(api.VRef)
		}
		return row[col-1]
	}
	return plain.Fault(api.VNA)
}
