package book

import (
	"tabula/api"
	"tabula/letters"
	"tabula/places"
	"tabula/ref"
	"tabula/right"
)

// Check is the first error of a workbook, and where it is; OK, if it is right.
func Check(b api.Book) (api.At, api.Errno) {
	if !isWithin(b) {
		return api.At{}, api.ErrLimit
	}
	if i, found := wrong(b.Sheets, isSheet, sameName(func(s api.Sheet) string { return s.Name })); found {
		return api.At{Sheet: i}, api.ErrSheet
	}
	for i, sheet := range b.Sheets {
		if c, found := wrongCell(sheet.Cells); found {
			return place(i, c), api.ErrCell
		}
	}
	if i, found := wrong(b.Names, isNameOf(b), sameNameOfSheet); found {
		return api.At{Row: i}, api.ErrName
	}
	if i, found := wrong(b.Tables, isTableOf(b), meetingTables); found {
		return api.At{Row: i}, api.ErrTable
	}
	if i, found := wrong(b.Rules, isRuleOf(b), func(a, b api.Rule) bool { return false }); found {
		return api.At{Row: i}, api.ErrRule
	}
	return api.At{}, api.OK
}

func isWithin(b api.Book) bool {
	cells := 0
	for _, sheet := range b.Sheets {
		cells += len(sheet.Cells)
	}
	return len(b.Sheets) >= 1 && len(b.Sheets) <= api.MaxSheets && cells <= api.MaxCells && len(b.Names) <= api.MaxNames && len(b.Tables) <= api.MaxTables && len(b.Rules) <= api.MaxRules
}

// wrong is the number of the first one of a list that is not right, or clashes with one ahead of it; false, if there is none.
func wrong[T any](list []T, isRight func(T) bool, clash func(a, b T) bool) (int, bool) {
	for i, x := range list {
		if !isRight(x) {
			return i, true
		}
		for _, ahead := range list[:i] {
			if clash(ahead, x) {
				return i, true
			}
		}
	}
	return 0, false
}

// sameName clashes where two are called alike, in great or small letters.
func sameName[T any](name func(T) string) func(a, b T) bool {
	return func(a, b T) bool { return letters.Alike(name(a), name(b)) }
}

func isSheet(s api.Sheet) bool {
	return right.Sheet(s.Name)
}

// wrongCell is the first cell of a sheet that is not right, or stands nowhere behind the one ahead of it.
func wrongCell(cells []api.Cell) (api.Cell, bool) {
	for i, c := range cells {
		at := place(0, c)
		if !right.Place(at) || i > 0 && places.Compare(place(0, cells[i-1]), at) >= 0 || !right.Input(c.Input) {
			return c, true
		}
	}
	return api.Cell{}, false
}

func isNameOf(b api.Book) func(api.Name) bool {
	return func(n api.Name) bool {
		formula, ok := right.Tree(n.Input)
		if !ok || !right.Name(n.Name) || n.Sheet < -1 || n.Sheet >= len(b.Sheets) {
			return false
		}
		return n.Sheet >= 0 || saysSheets(formula)
	}
}

// saysSheets says whether all references of a formula say on which sheet they are: a name of all sheets has no sheet of its own.
func saysSheets(n api.Node) bool {
	isRead := n.Kind == api.NRef || n.Kind == api.NRange
	if isRead && !n.Ref.Bad && n.Ref.Sheet == "" {
		return false
	}
	for _, kid := range n.Kids {
		if !saysSheets(kid) {
			return false
		}
	}
	return true
}

func sameNameOfSheet(a api.Name, b api.Name) bool {
	return a.Sheet == b.Sheet && letters.Alike(a.Name, b.Name)
}

func isTableOf(b api.Book) func(api.Table) bool {
	return func(t api.Table) bool {
		for _, n := range b.Names {
			if n.Sheet == -1 && letters.Alike(n.Name, t.Name) {
				return false
			}
		}
		return t.Sheet < len(b.Sheets) && right.Table(t)
	}
}

func meetingTables(a api.Table, b api.Table) bool {
	_, meet := ref.Meet(places.OfTable(a), places.OfTable(b))
	return meet || letters.Alike(a.Name, b.Name)
}

func isRuleOf(b api.Book) func(api.Rule) bool {
	return func(r api.Rule) bool { return r.Area.Sheet < len(b.Sheets) && right.Rule(r) }
}
