package ref

import "tabula/api"

// Area is the area between two references, on the sheet of that number.
func Area(a api.Ref, b api.Ref, sheet int) (api.Area, api.Errno) {
	if sheet < 0 || sheet >= api.MaxSheets {
		return api.Area{}, api.ErrArg
	}
	if !Right(a) || !Right(b) || a.Bad || b.Bad {
		return api.Area{}, api.ErrRef
	}
	first := api.At{Sheet: sheet, Row: min(a.Row, b.Row), Col: min(a.Col, b.Col)}
	return between(first, max(a.Row, b.Row)+1, max(a.Col, b.Col)+1), api.OK
}

// Meet is the area of the places that both have; false, if they have none.
func Meet(a api.Area, b api.Area) (api.Area, bool) {
	if !isArea(a) || !isArea(b) || a.Sheet != b.Sheet {
		return api.Area{}, false
	}
	first := api.At{Sheet: a.Sheet, Row: max(a.Row, b.Row), Col: max(a.Col, b.Col)}
	m := between(first, min(a.Row+a.Rows, b.Row+b.Rows), min(a.Col+a.Cols, b.Col+b.Cols))
	if !isArea(m) {
		return api.Area{}, false
	}
	return m, true
}

// Has says whether at is one of an area's places.
func Has(a api.Area, at api.At) bool {
	if !isArea(a) || a.Sheet != at.Sheet {
		return false
	}
	return at.Row >= a.Row && at.Row < a.Row+a.Rows && at.Col >= a.Col && at.Col < a.Col+a.Cols
}

// between goes up to the row and the column ahead of those that end it.
func between(first api.At, row int, col int) api.Area {
	return api.Area{Sheet: first.Sheet, Row: first.Row, Col: first.Col, Rows: row - first.Row, Cols: col - first.Col}
}

func isArea(a api.Area) bool {
	if a.Sheet < 0 || a.Sheet >= api.MaxSheets {
		return false
	}
	return within(a.Row, a.Rows, api.MaxRows) && within(a.Col, a.Cols, api.MaxCols)
}

// within takes the first one from the limit, and does not add: a sum of any two numbers may run over.
func within(first int, count int, limit int) bool {
	return first >= 0 && count >= 1 && count <= limit-first
}
