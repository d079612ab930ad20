package shift

import (
	"cmp"
	"slices"

	"tabula/api"
	"tabula/letters"
	"tabula/places"
	"tabula/right"
)

// work is an edit of a workbook under way: what there was ahead of it, what there is, and the number of the sheet that it is of.
type work struct {
	edit
	api.Book
	before api.Book
	sheet  int
}

// left are those of a list that stay, as they are then.
func left[T any](list []T, goes func(T) (T, bool)) []T {
	var stay []T
	for _, x := range list {
		if y, stays := goes(x); stays {
			stay = append(stay, y)
		}
	}
	return stay
}

func (w *work) moveCells() api.Errno {
	if !w.isOfRows() && !w.isOfCols() {
		return api.OK
	}
	err := api.OK
	sheet := &w.Sheets[w.sheet]
	sheet.Cells = left(sheet.Cells, func(c api.Cell) (api.Cell, bool) {
		n := &c.Col
		if w.isOfRows() {
			n = &c.Row
		}
		moved, stays := w.moved(*n)
		if moved >= w.count() {
			err = api.ErrEdge
		}
		*n = moved
		return c, stays
	})
	return err
}

// moveTables tells what is wrong with the first table that something is wrong with.
func (w *work) moveTables() api.Errno {
	err := api.OK
	w.Tables = left(w.Tables, func(t api.Table) (api.Table, bool) {
		stays := true
		switch {
		case t.Sheet != w.sheet || err != api.OK:
			return t, true
		case w.isOfRows():
			t, stays = w.tableRows(t)
		case w.parts(t):
			err = api.ErrShift
			return t, true
		case w.isOfCols():
			t, stays = w.tableCols(t)
		}
		if stays && !right.Area(places.OfTable(t)) {
			err = api.ErrEdge
		}
		return t, stays
	})
	return err
}

func (w *work) tableRows(t api.Table) (api.Table, bool) {
	head, stays := w.moved(t.Row)
	t.Row, t.Rows = head, w.end(t.Row+t.Rows)-head
	return t, stays && t.Rows > 0
}

// parts says whether columns are put in between those of a table.
func (w *work) parts(t api.Table) bool {
	return w.Kind == api.ShColsIn && w.At > t.Col && w.At < t.Col+len(t.Cols)
}

func (w *work) tableCols(t api.Table) (api.Table, bool) {
	var cols []string
	for i, name := range t.Cols {
		if _, stays := w.moved(t.Col + i); stays {
			cols = append(cols, name)
		}
	}
	t.Col, t.Cols = w.begin(t.Col), cols
	return t, len(cols) > 0
}

func (w *work) moveRules() api.Errno {
	w.Rules = left(w.Rules, func(r api.Rule) (api.Rule, bool) {
		a, stays := &r.Area, true
		switch {
		case a.Sheet != w.sheet:
		case w.isOfRows():
			a.Row, a.Rows, stays = w.run(a.Row, a.Rows)
		case w.isOfCols():
			a.Col, a.Cols, stays = w.run(a.Col, a.Cols)
		}
		return r, stays
	})
	return api.OK
}

// run takes so many numbers along, from the first one on.
func (w *work) run(first int, count int) (int, int, bool) {
	from, to, stays := w.span(first, first+count-1)
	return from, to - from + 1, stays
}

// takeOut takes the sheet out with all that is of it.
func (w *work) takeOut() api.Errno {
	if w.Kind == api.ShGone {
		w.Sheets = slices.Delete(w.Sheets, w.sheet, w.sheet+1)
		w.Names = without(w.Names, w.sheet, func(n *api.Name) *int { return &n.Sheet })
		w.Tables = without(w.Tables, w.sheet, func(t *api.Table) *int { return &t.Sheet })
		w.Rules = without(w.Rules, w.sheet, func(r *api.Rule) *int { return &r.Area.Sheet })
	}
	return api.OK
}

// without are those of a list that are not of a sheet; of sheets behind it the numbers are one less.
func without[T any](list []T, sheet int, of func(*T) *int) []T {
	return left(list, func(x T) (T, bool) {
		number := of(&x)
		stays := *number != sheet
		if *number > sheet {
			*number--
		}
		return x, stays
	})
}

// rename comes behind the formulas: they go along by the names that their sheets had.
func (w *work) rename() api.Errno {
	if w.Kind == api.ShRename {
		w.Sheets[w.sheet].Name = w.Name
	}
	return api.OK
}

func (w *work) moveFormulas() api.Errno {
	before, after := columns(w.before), columns(w.Book)
	w.lost = func(column string) bool {
		folded := letters.Small(column)
		return before[folded] && !after[folded]
	}
	err := api.OK
	along := func(sheet int, input *string) {
		e := w.edit
		if sheet >= 0 {
			e.own = w.Sheets[sheet].Name
		}
		moved, wrong := e.input(*input)
		err = cmp.Or(err, wrong)
		*input = moved
	}
	for i, sheet := range w.Sheets {
		for j := range sheet.Cells {
			along(i, &sheet.Cells[j].Input)
		}
	}
	for i, n := range w.Names {
		along(n.Sheet, &w.Names[i].Input)
	}
	for i, r := range w.Rules {
		along(r.Area.Sheet, &w.Rules[i].Formula)
	}
	return err
}

// columns are those of all tables, as formulas have them, folded.
func columns(b api.Book) map[string]bool {
	known := map[string]bool{}
	for _, t := range b.Tables {
		for _, name := range t.Cols {
			known[letters.Small(t.Name+"["+name+"]")] = true
		}
	}
	return known
}
