package fun

import (
	"slices"
	"strings"

	"tabula/api"
	"tabula/letters"
	"tabula/plain"
	"tabula/val"
)

// signs are where the signs of s begin, and its end.
func signs(s string) []int {
	var list []int
	for i := range s {
		list = append(list, i)
	}
	return append(list, len(s))
}

// cut is s from one of its signs up to another one, of which there may be fewer.
func cut(s string, from int, to int) string {
	list := signs(s)
	end := len(list) - 1
	return s[list[min(from, end)]:list[min(to, end)]]
}

func size(s string) int {
	return len(signs(s)) - 1
}

func length(l ...api.Val) api.Val {
	return count(size(l[0].S))
}

func left(l ...api.Val) api.Val {
	n, ok := whole(given(l, 1, 1), 0)
	if !ok {
		return plain.Fault(api.VValue)
	}
	return text(cut(l[0].S, 0, n))
}

func right(l ...api.Val) api.Val {
	n, ok := whole(given(l, 1, 1), 0)
	if !ok {
		return plain.Fault(api.VValue)
	}
	all := size(l[0].S)
	return text(cut(l[0].S, max(all-n, 0), all))
}

func middle(l ...api.Val) api.Val {
	from, begins := whole(l[1].N, 1)
	n, ends := whole(l[2].N, 0)
	if !begins || !ends {
		return plain.Fault(api.VValue)
	}
	return text(cut(l[0].S, from-1, from-1+n))
}

func upper(l ...api.Val) api.Val {
	return text(letters.Great(l[0].S))
}

func lower(l ...api.Val) api.Val {
	return text(letters.Small(l[0].S))
}

func trim(l ...api.Val) api.Val {
	parts := strings.FieldsFunc(l[0].S, func(c rune) bool { return c == ' ' })
	return text(strings.Join(parts, " "))
}

// repeat holds the length against the limit first: the number may be far too great to be tried.
func repeat(l ...api.Val) api.Val {
	n, ok := whole(l[1].N, 0)
	if !ok || len(l[0].S)*n > api.MaxText {
		return plain.Fault(api.VValue)
	}
	return text(strings.Repeat(l[0].S, n))
}

func search(l ...api.Val) api.Val {
	s := l[1].S
	list := signs(s)
	from, ok := whole(given(l, 2, 1), 1)
	if !ok || from > len(list) {
		return plain.Fault(api.VValue)
	}
	begin := list[from-1]
	further := strings.Index(s[begin:], l[0].S)
	if further < 0 {
		return plain.Fault(api.VValue)
	}
	return count(slices.Index(list, begin+further) + 1)
}

func substitute(l ...api.Val) api.Val {
	if l[1].S == "" {
		return l[0]
	}
	return text(strings.ReplaceAll(l[0].S, l[1].S, l[2].S))
}

func exact(l ...api.Val) api.Val {
	return plain.Truth(l[0].S == l[1].S)
}

func code(l ...api.Val) api.Val {
	for _, c := range l[0].S {
		return count(int(c))
	}
	return plain.Fault(api.VValue)
}

// texts are those of values, or the first error that stands among them.
func texts(l []api.Val) ([]string, int) {
	var list []string
	for _, v := range l {
		v = val.ToText(v)
		if isFault(v) {
			return nil, v.Err
		}
		list = append(list, v.S)
	}
	return list, 0
}

func concat(l ...api.Val) api.Val {
	list, wrong := texts(flat(l...))
	if wrong > 0 {
		return plain.Fault(wrong)
	}
	return text(strings.Join(list, ""))
}

func textJoin(l ...api.Val) api.Val {
	between, leaves := val.ToText(l[0]), val.ToBool(l[1])
	switch {
	case between.Kind == api.Array || leaves.Kind == api.Array:
		return plain.Fault(api.VValue)
	case isFault(between):
		return between
	case isFault(leaves):
		return leaves
	}
	list, wrong := texts(flat(l[2:]...))
	if wrong > 0 {
		return plain.Fault(wrong)
	}
	if leaves.B {
		list = slices.DeleteFunc(list, func(s string) bool { return s == "" })
	}
	return text(strings.Join(list, between.S))
}
