package pack

import (
	"slices"

	"tabula/api"
)

// writer lays the bytes of a file, in which texts are their numbers.
type writer struct {
	bytes   []byte
	numbers map[string]int
}

// lay lays numbers in so many bytes each, the greatest one first.
func (w *writer) lay(size int, numbers ...int) {
	for _, n := range numbers {
		for i := size - 1; i >= 0; i-- {
			w.bytes = append(w.bytes, byte(n>>(8*i)))
		}
	}
}

func (w *writer) texts(list ...string) {
	for _, s := range list {
		w.lay(2, w.numbers[s])
	}
}

// section lays its body first: how long that is stands ahead of it.
func (w *writer) section(number int, lay func()) {
	file := w.bytes
	w.bytes = nil
	lay()
	body := w.bytes
	w.bytes = file
	w.lay(1, number)
	w.lay(lengthBytes, len(body))
	w.bytes = append(w.bytes, body...)
	w.lay(sumBytes, Sum(string(body)))
}

func (w *writer) dictionary(list []string) {
	w.lay(2, len(list))
	for _, s := range list {
		w.lay(2, len(s))
		w.bytes = append(w.bytes, s...)
	}
}

func (w *writer) sheets(list []api.Sheet) {
	w.lay(1, len(list))
	for _, s := range list {
		w.texts(s.Name)
		w.lay(2, len(s.Cells))
		for _, c := range s.Cells {
			w.lay(1, c.Row)
		}
		for _, c := range s.Cells {
			w.lay(1, c.Col)
		}
		for _, c := range s.Cells {
			w.texts(c.Input)
		}
	}
}

// names have 1 added to their sheets, as those of all sheets are below 0.
func (w *writer) names(list []api.Name) {
	w.lay(1, len(list))
	for _, n := range list {
		w.texts(n.Name)
	}
	for _, n := range list {
		w.lay(1, n.Sheet+1)
	}
	for _, n := range list {
		w.texts(n.Input)
	}
}

func (w *writer) tables(list []api.Table) {
	w.lay(1, len(list))
	for _, t := range list {
		w.texts(t.Name)
		w.lay(1, t.Sheet, t.Row, t.Col, t.Rows, len(t.Cols))
		w.texts(t.Cols...)
	}
}

func (w *writer) rules(list []api.Rule) {
	w.lay(1, len(list))
	for _, r := range list {
		must := 0
		if r.Must {
			must = 1
		}
		w.lay(1, r.Area.Sheet, r.Area.Row, r.Area.Col, r.Area.Rows, r.Area.Cols)
		w.texts(r.Formula)
		w.lay(1, r.Style, must)
	}
}

// texts are all of a workbook, each once, in order.
func texts(b api.Book) []string {
	var list []string
	for _, s := range b.Sheets {
		list = append(list, s.Name)
		for _, c := range s.Cells {
			list = append(list, c.Input)
		}
	}
	for _, n := range b.Names {
		list = append(list, n.Name, n.Input)
	}
	for _, t := range b.Tables {
		list = append(list, t.Name)
		list = append(list, t.Cols...)
	}
	for _, r := range b.Rules {
		list = append(list, r.Formula)
	}
	slices.Sort(list)
	return slices.Compact(list)
}
