package calc

import (
	"slices"
	"strings"

	"tabula/api"
	"tabula/bare"
	"tabula/book"
	"tabula/dec"
	"tabula/spill"
	"tabula/val"
	"tabula/wrong"
)

// state is a workbook at a time: its literals, its formulas, and what is known of their answers.
type state struct {
	api.Book
	now      api.Dec
	called   []string
	literals []api.Shown
	formulas []formula
	memory   *memory
}

func newState(b api.Book, now api.Dec, m []api.Memo) (*state, error) {
	if _, err := book.Check(b); err != api.OK {
		return nil, wrong.Of(err)
	}
	if !dec.Right(now) {
		return nil, wrong.Of(api.ErrArg)
	}
	s := &state{Book: b, now: now, memory: newMemory(m)}
	for _, sheet := range s.Sheets {
		s.called = append(s.called, sheet.Name)
	}
	read := reader{s, bare.Book(b)}
	for i, sheet := range s.Sheets {
		for _, c := range sheet.Cells {
			at := api.At{Sheet: i, Row: c.Row, Col: c.Col}
			if strings.HasPrefix(c.Input, "=") {
				s.formulas = append(s.formulas, read.formula(at, c.Input))
				continue
			}
			v, _ := val.Read(c.Input)
			s.literals = append(s.literals, api.Shown{At: at, V: v})
		}
	}
	return s, nil
}

// calculate goes from lay to lay, till one tells what it was calculated by. Where none does, nothing spills.
func (s *state) calculate() *lay {
	var spills []api.Spill
	var blocked []api.At
	for range api.MaxLays {
		l := s.by(spills, blocked...)
		placed, stopped, _ := spill.Place(s.Book, l.askedFor())
		if slices.Equal(placed, spills) && slices.Equal(stopped, blocked) {
			return l
		}
		spills, blocked = placed, stopped
	}
	cells, _ := book.Cells(s.Book)
	return s.by(nil, cells...)
}
