package what

import (
	"tabula/api"
	"tabula/book"
	"tabula/calc"
	"tabula/right"
	"tabula/wrong"
)

// trial is a workbook with an input tried, and what it shows.
type trial struct {
	api.Book
	vals map[api.At]api.Val
}

// shown is what some places show, with an input tried.
func shown(b api.Book, at api.At, input string, now api.Dec, outs ...api.At) ([]api.Val, error) {
	set, errno := book.Set(b, at, input)
	if errno != api.OK {
		return nil, wrong.Of(errno)
	}
	l, errno := calc.Values(set, now)
	if errno != api.OK {
		return nil, wrong.Of(errno)
	}
	t := trial{set, map[api.At]api.Val{}}
	for _, s := range l {
		t.vals[s.At] = s.V
	}
	return t.tell(outs...)
}

// tell looks places up, as all are calculated at once.
func (t trial) tell(outs ...api.At) ([]api.Val, error) {
	var list []api.Val
	for _, out := range outs {
		if !right.Place(out) || out.Sheet >= len(t.Sheets) {
			return nil, wrong.Of(api.ErrArg)
		}
		list = append(list, t.vals[out])
	}
	return list, nil
}
