package pivot_test

import (
	"tabula/api"
	"tabula/dec"
	"tabula/val"
)

// keysOf are the keys of a column in the rows below the head, put where they stand one by one.
func keysOf(v api.Val, col int) []api.Val {
	var list []api.Val
rows:
	for row := 1; row < v.Rows; row++ {
		x := v.L[row*v.Cols+col]
		place := 0
		for i, y := range list {
			switch val.Compare(x, y) {
			case 0:
				continue rows
			case 1:
				place = i + 1
			}
		}
		list = append(list[:place], append([]api.Val{x}, list[place:]...)...)
	}
	return list
}

func fault(n int) api.Val { return api.Val{Kind: api.Fault, Err: n} }

// put is what values are, put together, by the chapter's words.
func put(l []api.Val, how int) api.Val {
	var nums []api.Dec
	n := 0
	for _, v := range l {
		if v.Kind == api.Fault {
			return v
		}
	}
	for _, v := range l {
		if v.Kind != api.Empty {
			n++
		}
		if v.Kind == api.Num {
			nums = append(nums, v.N)
		}
	}
	sum, wrong := api.Dec{}, api.OK
	for _, x := range nums {
		if wrong == api.OK {
			sum, wrong = dec.Add(sum, x)
		}
	}
	count, _ := dec.Of(n)
	many, _ := dec.Of(len(nums))
	switch {
	case how == api.HowCount:
		return api.Val{Kind: api.Num, N: count}
	case how == api.HowMean && len(nums) == 0:
		return fault(api.VDiv)
	case (how == api.HowLeast || how == api.HowMost) && len(nums) == 0:
		return api.Val{}
	case how == api.HowLeast || how == api.HowMost:
		best := nums[0]
		for _, x := range nums {
			if how == api.HowLeast && dec.Compare(x, best) < 0 || how == api.HowMost && dec.Compare(x, best) > 0 {
				best = x
			}
		}
		return api.Val{Kind: api.Num, N: best}
	case wrong != api.OK:
		return fault(api.VNum)
	case how == api.HowMean:
		mean, err := dec.Div(sum, many)
		if err != api.OK {
			return fault(api.VNum)
		}
		return api.Val{Kind: api.Num, N: mean}
	}
	return api.Val{Kind: api.Num, N: sum}
}

// turned is a turned table, by the chapter's words.
func turned(v api.Val, row int, col int, value int, how int) (api.Val, api.Errno) {
	down, across := keysOf(v, row), keysOf(v, col)
	list := append([]api.Val{v.L[row]}, across...)
	for _, d := range down {
		list = append(list, d)
		for _, a := range across {
			var some []api.Val
			for i := 1; i < v.Rows; i++ {
				if val.Compare(v.L[i*v.Cols+row], d) == 0 && val.Compare(v.L[i*v.Cols+col], a) == 0 {
					some = append(some, v.L[i*v.Cols+value])
				}
			}
			x := api.Val{}
			if len(some) > 0 {
				x = put(some, how)
			}
			list = append(list, x)
		}
	}
	return val.Make(len(down)+1, len(across)+1, list)
}

// sorted is a table whose rows were put one by one behind all that don't stand behind them.
func sorted(v api.Val, cols []int) api.Val {
	var rows [][]api.Val
	for i := range v.Rows {
		row := v.L[i*v.Cols : (i+1)*v.Cols]
		place := len(rows)
		for place > 0 && isAhead(row, rows[place-1], cols) {
			place--
		}
		rows = append(rows[:place], append([][]api.Val{row}, rows[place:]...)...)
	}
	var list []api.Val
	for _, row := range rows {
		list = append(list, row...)
	}
	s, _ := val.Make(v.Rows, v.Cols, list)
	return s
}

func isAhead(a []api.Val, b []api.Val, cols []int) bool {
	for _, col := range cols {
		c := 0
		if col >= 0 {
			c = val.Compare(a[col], b[col])
		} else {
			c = -val.Compare(a[-col-1], b[-col-1])
		}
		if c != 0 {
			return c < 0
		}
	}
	return false
}

func filtered(v api.Val, col int, least api.Val, most api.Val) api.Val {
	var list []api.Val
	for i := range v.Rows {
		x := v.L[i*v.Cols+col]
		if val.Compare(x, least) >= 0 && val.Compare(x, most) <= 0 {
			list = append(list, v.L[i*v.Cols:(i+1)*v.Cols]...)
		}
	}
	f, err := val.Make(len(list)/v.Cols, v.Cols, list)
	if err != api.OK {
		return fault(api.VNA)
	}
	return f
}
