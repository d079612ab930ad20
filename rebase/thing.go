package rebase

import (
	"cmp"

	"tabula/api"
	"tabula/letters"
)

// thing is what an operation puts into a workbook.
type thing interface {
	lay(b *api.Book)
	left(b api.Book) (api.Op, bool)
}

type cell struct {
	api.Op
}

func (c cell) lay(b *api.Book) {
	b.Sheets[c.Sheet].Cells = []api.Cell{{Row: c.Row, Col: c.Col, Input: cmp.Or(c.S, "0")}}
}

func (c cell) left(b api.Book) (api.Op, bool) {
	for i, sheet := range b.Sheets {
		for _, x := range sheet.Cells {
			c.Sheet, c.Row, c.Col = i, x.Row, x.Col
			if c.S != "" {
				c.S = x.Input
			}
			return c.Op, true
		}
	}
	return api.Op{}, false
}

type name struct {
	api.Op
}

func (n name) lay(b *api.Book) {
	b.Names = []api.Name{{Name: n.Name, Sheet: n.Sheet, Input: cmp.Or(n.S, "=0")}}
}

func (n name) left(b api.Book) (api.Op, bool) {
	for _, x := range b.Names {
		n.Sheet = x.Sheet
		if n.S != "" {
			n.S = x.Input
		}
		return n.Op, true
	}
	return api.Op{}, false
}

type table struct {
	api.Op
}

func (t table) lay(b *api.Book) {
	b.Tables = append(b.Tables, t.Table)
}

// left finds the table by its name, as others, too, may be gone.
func (t table) left(b api.Book) (api.Op, bool) {
	for _, x := range b.Tables {
		if letters.Alike(x.Name, t.Table.Name) {
			t.Table = x
			return t.Op, true
		}
	}
	return api.Op{}, false
}

type rule struct {
	api.Op
}

func (r rule) lay(b *api.Book) {
	b.Rules = []api.Rule{r.Rule}
}

func (r rule) left(b api.Book) (api.Op, bool) {
	for _, x := range b.Rules {
		r.Rule = x
		return r.Op, true
	}
	return api.Op{}, false
}
