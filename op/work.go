package op

import (
	"slices"

	"tabula/api"
	"tabula/book"
	"tabula/edits"
	"tabula/fresh"
	"tabula/letters"
	"tabula/shift"
)

// work is an operation that is being done to a workbook.
type work struct {
	api.Op
	book api.Book
}

// do is what is done by the operation's kind.
func (w *work) do() func() api.Errno {
	return map[int]func() api.Errno{
		api.OpSet:      w.set,
		api.OpRowsIn:   w.shift,
		api.OpRowsOut:  w.shift,
		api.OpColsIn:   w.shift,
		api.OpColsOut:  w.shift,
		api.OpSheetIn:  w.sheetIn,
		api.OpSheetOut: w.shift,
		api.OpRename:   w.shift,
		api.OpName:     w.name,
		api.OpTable:    w.tableIn,
		api.OpNoTable:  w.tableOut,
		api.OpRule:     w.ruleIn,
		api.OpNoRule:   w.ruleOut,
	}[w.Kind]
}

// without is a list without the one of that number; false, if there is none.
func without[T any](list []T, i int) ([]T, bool) {
	if i < 0 || i >= len(list) {
		return list, false
	}
	return slices.Delete(list, i, i+1), true
}

func (w *work) set() api.Errno {
	b, err := book.Set(w.book, place(w.Op), w.S)
	w.book = b
	return err
}

func (w *work) shift() api.Errno {
	b, err := shift.Book(w.book, edits.Of(w.Op, w.book.Sheets[w.Sheet].Name))
	w.book = b
	return err
}

func (w *work) sheetIn() api.Errno {
	w.book.Sheets = append(w.book.Sheets, api.Sheet{Name: w.Name})
	return api.OK
}

// name puts one in the place of that of the same text and sheet, or behind all; or takes that away.
func (w *work) name() api.Errno {
	i := slices.IndexFunc(w.book.Names, func(n api.Name) bool { return n.Sheet == w.Sheet && letters.Alike(n.Name, w.Name) })
	if w.S == "" {
		left, found := without(w.book.Names, i)
		w.book.Names = left
		return unless(found, api.ErrName)
	}
	n := api.Name{Name: w.Name, Sheet: w.Sheet, Input: w.S}
	if i < 0 {
		w.book.Names = append(w.book.Names, n)
	} else {
		w.book.Names[i] = n
	}
	return api.OK
}

func (w *work) tableIn() api.Errno {
	t := w.Table
	t.Cols = fresh.List(t.Cols)
	w.book.Tables = append(w.book.Tables, t)
	return api.OK
}

func (w *work) tableOut() api.Errno {
	i := slices.IndexFunc(w.book.Tables, func(t api.Table) bool { return letters.Alike(t.Name, w.Name) })
	left, found := without(w.book.Tables, i)
	w.book.Tables = left
	return unless(found, api.ErrTable)
}

func (w *work) ruleIn() api.Errno {
	w.book.Rules = append(w.book.Rules, w.Rule)
	return api.OK
}

func (w *work) ruleOut() api.Errno {
	left, found := without(w.book.Rules, w.N)
	w.book.Rules = left
	return unless(found, api.ErrRule)
}

func unless(found bool, err api.Errno) api.Errno {
	if found {
		return api.OK
	}
	return err
}
