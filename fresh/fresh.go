// Package fresh makes copies that share no memory with what they are of.
package fresh

import "tabula/api"

// List is a copy of a list whose parts have no lists of their own.
func List[T any](l []T) []T {
	return append([]T(nil), l...)
}

// Book is a copy of a workbook.
func Book(b api.Book) api.Book {
	c := api.Book{Sheets: List(b.Sheets), Names: List(b.Names), Tables: List(b.Tables), Rules: List(b.Rules)}
	for i := range c.Sheets {
		c.Sheets[i].Cells = List(c.Sheets[i].Cells)
	}
	for i := range c.Tables {
		c.Tables[i].Cols = List(c.Tables[i].Cols)
	}
	return c
}

// Op is a copy of an operation.
func Op(o api.Op) api.Op {
	o.Table.Cols = List(o.Table.Cols)
	return o
}

// Log is a copy of a log.
func Log(l []api.Entry) []api.Entry {
	c := List(l)
	for i := range c {
		c[i].Op, c[i].Again = Op(c[i].Op), Op(c[i].Again)
	}
	return c
}
