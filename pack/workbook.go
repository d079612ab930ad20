package pack

import "tabula/api"

// workbook is that of the bodies of a file's sections. What stands in them behind all that is read is told by the workbook's own file.
func workbook(bodies []string) api.Book {
	words := &reader{rest: bodies[0]}
	texts := many(words.number(2), func() string { return words.take(words.number(2)) })
	body := func(i int) *reader { return &reader{rest: bodies[i], texts: texts} }
	sheets, names, tables, rules := body(1), body(2), body(3), body(4)
	return api.Book{
		Sheets: many(sheets.number(1), sheets.sheet),
		Names:  names.names(),
		Tables: many(tables.number(1), tables.table),
		Rules:  many(rules.number(1), rules.rule),
	}
}

func (r *reader) sheet() api.Sheet {
	s := api.Sheet{Name: r.text()}
	count := r.number(2)
	rows, cols := r.small(count), r.small(count)
	for i := range count {
		s.Cells = append(s.Cells, api.Cell{Row: rows[i], Col: cols[i], Input: r.text()})
	}
	return s
}

func (r *reader) names() []api.Name {
	count := r.number(1)
	called, sheets := many(count, r.text), r.small(count)
	var list []api.Name
	for i := range count {
		list = append(list, api.Name{Name: called[i], Sheet: sheets[i] - 1, Input: r.text()})
	}
	return list
}

func (r *reader) table() api.Table {
	t := api.Table{Name: r.text()}
	n := r.small(5)
	t.Sheet, t.Row, t.Col, t.Rows = n[0], n[1], n[2], n[3]
	t.Cols = many(n[4], r.text)
	return t
}

func (r *reader) rule() api.Rule {
	n := r.small(5)
	return api.Rule{
		Area:    api.Area{Sheet: n[0], Row: n[1], Col: n[2], Rows: n[3], Cols: n[4]},
		Formula: r.text(),
		Style:   r.number(1),
		Must:    r.number(1) == 1,
	}
}
