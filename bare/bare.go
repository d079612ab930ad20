// Package bare makes workbooks of which little is left: what is asked of one part of a workbook hangs on few of the others, and all of them would have to be checked each time.
package bare

import (
	"tabula/api"
	"tabula/fresh"
)

// Book is a workbook without cells, names and rules.
func Book(b api.Book) api.Book {
	return fresh.Book(api.Book{Sheets: empty(b.Sheets), Tables: b.Tables})
}

// Cell is a workbook without rules, and without all other cells than one.
func Cell(b api.Book, at api.At, input string) api.Book {
	c := Book(b)
	c.Names = fresh.List(b.Names)
	c.Sheets[at.Sheet].Cells = []api.Cell{{Row: at.Row, Col: at.Col, Input: input}}
	return c
}

func empty(sheets []api.Sheet) []api.Sheet {
	var list []api.Sheet
	for _, s := range sheets {
		list = append(list, api.Sheet{Name: s.Name})
	}
	return list
}
