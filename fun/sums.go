package fun

import (
	"slices"

	"tabula/api"
	"tabula/dec"
	"tabula/plain"
	"tabula/val"
)

// ofNumbers hands the numbers of its values on, or tells the first error that stands among them.
func ofNumbers(tell func([]api.Dec) api.Val) func(l ...api.Val) api.Val {
	return func(l ...api.Val) api.Val {
		list, wrong := numbers(l...)
		if wrong > 0 {
			return plain.Fault(wrong)
		}
		return tell(list)
	}
}

// numbers tells of a text or a truth only where it stands alone.
func numbers(l ...api.Val) ([]api.Dec, int) {
	var list []api.Dec
	for _, v := range l {
		for _, x := range flat(v) {
			if x.Kind == api.Empty || v.Kind == api.Array && (x.Kind == api.Text || x.Kind == api.Truth) {
				continue
			}
			x = val.ToNum(x)
			if isFault(x) {
				return nil, x.Err
			}
			list = append(list, x.N)
		}
	}
	return list, 0
}

// all goes through numbers by what is done with two, up to the first error.
func all(first api.Dec, list []api.Dec, do func(a, b api.Dec) (api.Dec, api.Errno)) api.Val {
	v := plain.Number(first)
	for _, d := range list {
		v = plain.Decimal(do(v.N, d))
		if isFault(v) {
			return v
		}
	}
	return v
}

func sum(list []api.Dec) api.Val {
	return all(api.Dec{}, list, dec.Add)
}

func product(list []api.Dec) api.Val {
	if len(list) == 0 {
		return count(0)
	}
	return all(api.Dec{M: 1}, list, dec.Mul)
}

func least(list []api.Dec) api.Val {
	if len(list) == 0 {
		return count(0)
	}
	return plain.Number(slices.MinFunc(list, dec.Compare))
}

func greatest(list []api.Dec) api.Val {
	if len(list) == 0 {
		return count(0)
	}
	return plain.Number(slices.MaxFunc(list, dec.Compare))
}

func average(list []api.Dec) api.Val {
	total := sum(list)
	if isFault(total) {
		return total
	}
	return plain.Decimal(dec.Div(total.N, count(len(list)).N))
}

func median(list []api.Dec) api.Val {
	if len(list) == 0 {
		return plain.Fault(api.VNum)
	}
	slices.SortFunc(list, dec.Compare)
	half := len(list) / 2
	if len(list)%2 == 1 {
		return plain.Number(list[half])
	}
	both := plain.Decimal(dec.Add(list[half-1], list[half]))
	if isFault(both) {
		return both
	}
	return plain.Decimal(dec.Div(both.N, api.Dec{M: 2}))
}

func isSome(v api.Val) bool {
	return v.Kind != api.Empty
}

func isBlank(v api.Val) bool {
	return v.Kind == api.Empty || v.Kind == api.Text && v.S == ""
}

// counting tells how many values are so.
func counting(is func(api.Val) bool) func(l ...api.Val) api.Val {
	return func(l ...api.Val) api.Val {
		n := 0
		for _, v := range flat(l...) {
			if is(v) {
				n++
			}
		}
		return count(n)
	}
}

// ranked tells the number that stands in some place of an order.
func ranked(order func(a, b api.Dec) int) func(l ...api.Val) api.Val {
	return func(l ...api.Val) api.Val {
		list, wrong := numbers(l[0])
		if wrong > 0 {
			return plain.Fault(wrong)
		}
		at := single(l[1])
		if isFault(at) {
			return at
		}
		k, ok := whole(at.N, 1)
		if !ok || k > len(list) {
			return plain.Fault(api.VNum)
		}
		slices.SortFunc(list, order)
		return plain.Number(list[k-1])
	}
}

func countIf(l ...api.Val) api.Val {
	if l[1].Kind == api.Array {
		return plain.Fault(api.VValue)
	}
	return counting(func(v api.Val) bool { return isBeside(v, l[1]) })(l[0])
}

func sumIf(l ...api.Val) api.Val {
	asked, added := flat(l[0]), flat(l[len(l)-1])
	if len(l) == 2 {
		added = asked
	}
	if l[1].Kind == api.Array || len(asked) != len(added) {
		return plain.Fault(api.VValue)
	}
	var list []api.Dec
	for i, v := range added {
		switch {
		case !isBeside(asked[i], l[1]):
		case isFault(v):
			return v
		case v.Kind == api.Num:
			list = append(list, v.N)
		}
	}
	return sum(list)
}
