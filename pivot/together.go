package pivot

import (
	"tabula/api"
	"tabula/dec"
	"tabula/plain"
)

// together are some values, put together: the first error, if there is one.
func together(l []api.Val, how int) api.Val {
	if len(l) == 0 {
		return api.Val{}
	}
	var nums []api.Dec
	filled := 0
	for _, v := range l {
		switch v.Kind {
		case api.Fault:
			return v
		case api.Num:
			nums = append(nums, v.N)
			fallthrough
		default:
			filled++
		case api.Empty:
		}
	}
	return reckoned(nums, filled, how)
}

// reckoned tells the count of all values, or what is told of those that are numbers. The greatest one is the least one, the other way round; a sum is a mean that is not shared out.
func reckoned(nums []api.Dec, filled int, how int) api.Val {
	sign, parts := 1, 1
	switch how {
	case api.HowCount:
		return plain.Decimal(dec.Of(filled))
	case api.HowMost:
		sign = -1
		fallthrough
	case api.HowLeast:
		return first(nums, func(a, b api.Dec) bool { return sign*dec.Compare(a, b) < 0 })
	case api.HowMean:
		parts = len(nums)
		fallthrough
	default:
		return shared(nums, parts)
	}
}

// first is the first one that none stands ahead of; nothing, if there are none.
func first(nums []api.Dec, isAhead func(a, b api.Dec) bool) api.Val {
	if len(nums) == 0 {
		return api.Val{}
	}
	best := nums[0]
	for _, n := range nums {
		if isAhead(n, best) {
			best = n
		}
	}
	return plain.Number(best)
}

// shared is the sum, by how many parts there are.
func shared(nums []api.Dec, parts int) api.Val {
	sum, err := api.Dec{}, api.OK
	for _, n := range nums {
		if sum, err = dec.Add(sum, n); err != api.OK {
			return plain.Decimal(sum, err)
		}
	}
	by, _ := dec.Of(parts)
	return plain.Decimal(dec.Div(sum, by))
}
