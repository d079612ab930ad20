package recalc

import (
	"tabula/api"
	"tabula/calc"
	"tabula/places"
	"tabula/right"
	"tabula/wrong"
)

// memory has what was told of the workbook that was shown last, what it shows, which places are its own (of none, if nothing has been shown), and how often formulas were asked.
type memory struct {
	told  []api.Memo
	shown map[api.At]api.Val
	has   func(api.At) bool
	asked int
}

func (m *memory) take(b api.Book, now api.Dec) ([]api.At, error) {
	l, told, asked, err := calc.With(b, now, m.told)
	if err != api.OK {
		return nil, wrong.Of(err)
	}
	m.told, m.shown = told, map[api.At]api.Val{}
	for _, s := range l {
		m.shown[s.At] = s.V
	}
	sheets := len(b.Sheets)
	m.has = func(at api.At) bool { return right.Place(at) && at.Sheet < sheets }
	m.count(asked...)
	return asked, nil
}

func (m *memory) count(asked ...api.At) {
	m.asked += len(asked)
}

// all looks at one place behind the other, till there are as many as are shown.
func (m *memory) all() []api.Shown {
	var list []api.Shown
sheets:
	for sheet := range api.MaxSheets {
		for at := range places.In(api.Area{Sheet: sheet, Rows: api.MaxRows, Cols: api.MaxCols}) {
			if len(list) == len(m.shown) {
				break sheets
			}
			if v, found := m.shown[at]; found {
				list = append(list, api.Shown{At: at, V: v})
			}
		}
	}
	return list
}

func (m *memory) at(at api.At) (api.Val, error) {
	if m.has == nil {
		return api.Val{}, wrong.Of(api.ErrEngine)
	}
	if !m.has(at) {
		return api.Val{}, wrong.Of(api.ErrArg)
	}
	return m.shown[at], nil
}
