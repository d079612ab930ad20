package fun

import (
	"slices"

	"tabula/api"
	"tabula/dec"
	"tabula/plain"
	"tabula/val"
)

func not(l ...api.Val) api.Val {
	return plain.Truth(!l[0].B)
}

func choice(l ...api.Val) api.Val {
	switch {
	case l[0].B:
		return l[1]
	case len(l) == 3:
		return l[2]
	}
	return plain.Truth(false)
}

func unless(is func(api.Val) bool) func(l ...api.Val) api.Val {
	return func(l ...api.Val) api.Val {
		if is(l[0]) {
			return l[1]
		}
		return l[0]
	}
}

// ofTruths hands the truths of its values on, or tells the first error that stands among them.
func ofTruths(tell func([]bool) bool) func(l ...api.Val) api.Val {
	return func(l ...api.Val) api.Val {
		list, wrong := truths(l)
		switch {
		case wrong > 0:
			return plain.Fault(wrong)
		case len(list) == 0:
			return plain.Fault(api.VValue)
		}
		return plain.Truth(tell(list))
	}
}

// truths tells of a text only where it stands alone.
func truths(l []api.Val) ([]bool, int) {
	var list []bool
	for _, v := range l {
		for _, x := range flat(v) {
			if x.Kind == api.Empty || x.Kind == api.Text && v.Kind == api.Array {
				continue
			}
			x = val.ToBool(x)
			if isFault(x) {
				return nil, x.Err
			}
			list = append(list, x.B)
		}
	}
	return list, 0
}

func allOf(list []bool) bool {
	return !slices.Contains(list, false)
}

func someOf(list []bool) bool {
	return slices.Contains(list, true)
}

func oddOf(list []bool) bool {
	odd := false
	for _, b := range list {
		odd = odd != b
	}
	return odd
}

func time(now api.Dec) api.Val {
	if !dec.Right(now) {
		return plain.Fault(api.VNum)
	}
	return plain.Number(now)
}

func choose(l ...api.Val) api.Val {
	k, v := place(l[0])
	switch {
	case isFault(v):
		return v
	case k >= len(l):
		return plain.Fault(api.VValue)
	}
	return l[k]
}

func typeOf(l ...api.Val) api.Val {
	switch l[0].Kind {
	case api.Text:
		return count(2)
	case api.Truth:
		return count(4)
	case api.Fault:
		return count(16)
	case api.Array:
		return count(64)
	case api.Func:
		return count(128)
	}
	return count(1)
}
