package plain

import (
	"tabula/api"
	"tabula/val"
)

// Each does something with some right values. If one of them is an array, it is done for each row and column, up to the greatest ones, with what stands there of each value, and an array is made of what comes of it: VValue in place of what is no plain value, and VNum alone, if that would be too large.
func Each(l []api.Val, do func([]api.Val) api.Val) api.Val {
	rows, cols := 0, 0
	for _, v := range l {
		rows, cols = max(rows, v.Rows), max(cols, v.Cols)
	}
	if rows == 0 {
		return do(l)
	}
	if rows*cols > api.MaxArray {
		return Fault(api.VNum)
	}
	list := make([]api.Val, 0, rows*cols)
	for row := range rows {
		for col := range cols {
			there := make([]api.Val, 0, len(l))
			for _, v := range l {
				there = append(there, at(v, row, col))
			}
			list = append(list, only(do(there)))
		}
	}
	return api.Val{Kind: api.Array, Rows: rows, Cols: cols, L: list}
}

// at tells what val.Get tells, which would ask each time whether the whole array is right.
func at(v api.Val, row int, col int) api.Val {
	if v.Kind != api.Array {
		return v
	}
	if v.Rows == 1 {
		row = 0
	}
	if v.Cols == 1 {
		col = 0
	}
	if row >= v.Rows || col >= v.Cols {
		return Fault(api.VNA)
	}
	return v.L[row*v.Cols+col]
}

// Fresh is a right value that shares no memory with v.
func Fresh(v api.Val) api.Val {
	if v.Kind != api.Array {
		return val.Get(v, 0, 0)
	}
	v, _ = val.Make(v.Rows, v.Cols, v.L)
	return v
}

// only is an error in place of what is no plain value.
func only(v api.Val) api.Val {
	if v.Kind == api.Array || v.Kind == api.Func {
		return Fault(api.VValue)
	}
	return v
}
