package pivot

import (
	"slices"

	"tabula/api"
	"tabula/val"
)

// rowsOf are the rows of a table; none, if it is no table.
func rowsOf(v api.Val) [][]api.Val {
	if v.Kind != api.Array || !val.Right(v) {
		return nil
	}
	return slices.Collect(slices.Chunk(v.L, v.Cols))
}

// tableOf is the table of some rows.
func tableOf(rows [][]api.Val) (api.Val, api.Errno) {
	return val.Make(len(rows), len(rows[0]), slices.Concat(rows...))
}

// isColumn says whether a value is a table that has a column of that number. Of what is right tables alone have columns.
func isColumn(v api.Val, col int) bool {
	return col >= 0 && col < v.Cols && val.Right(v)
}

func isPlain(v api.Val) bool {
	return v.Kind != api.Array && v.Kind != api.Func && val.Right(v)
}

func column(rows [][]api.Val, col int) []api.Val {
	var list []api.Val
	for _, row := range rows {
		list = append(list, row[col])
	}
	return list
}

// among are the rows whose value in a column stands beside a key.
func among(rows [][]api.Val, col int, key api.Val) [][]api.Val {
	var list [][]api.Val
	for _, row := range rows {
		if val.Compare(row[col], key) == 0 {
			list = append(list, row)
		}
	}
	return list
}

// keys are the values of a column, in order; of those that stand beside each other the first one.
func keys(rows [][]api.Val, col int) []api.Val {
	list := column(rows, col)
	slices.SortStableFunc(list, val.Compare)
	return slices.CompactFunc(list, func(a, b api.Val) bool { return val.Compare(a, b) == 0 })
}
