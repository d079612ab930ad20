// Package places knows the order of places, and which of them areas have.
package places

import (
	"cmp"
	"iter"

	"tabula/api"
)

// Compare is -1, 0 or 1, as a stands ahead of b, is b, or stands behind it.
func Compare(a api.At, b api.At) int {
	return cmp.Or(cmp.Compare(a.Sheet, b.Sheet), cmp.Compare(a.Row, b.Row), cmp.Compare(a.Col, b.Col))
}

// In goes through the places of an area, in order.
func In(a api.Area) iter.Seq[api.At] {
	return func(yield func(api.At) bool) {
		for row := range a.Rows {
			for col := range a.Cols {
				if !yield(api.At{Sheet: a.Sheet, Row: a.Row + row, Col: a.Col + col}) {
					return
				}
			}
		}
	}
}

// OfCell is the area of one place.
func OfCell(at api.At) api.Area {
	return api.Area{Sheet: at.Sheet, Row: at.Row, Col: at.Col, Rows: 1, Cols: 1}
}

// OfSpill is the area of a spill.
func OfSpill(s api.Spill) api.Area {
	return api.Area{Sheet: s.At.Sheet, Row: s.At.Row, Col: s.At.Col, Rows: s.Rows, Cols: s.Cols}
}

// OfTable is the area of a table, with its head. Of more rows than any sheet has the sum may run over, and is no more right then.
func OfTable(t api.Table) api.Area {
	return api.Area{Sheet: t.Sheet, Row: t.Row, Col: t.Col, Rows: t.Rows + 1, Cols: len(t.Cols)}
}
