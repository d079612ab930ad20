package rules_test

import (
	"slices"
	"strings"

	"tabula/api"
	"tabula/book"
	"tabula/calc"
	"tabula/lex"
	"tabula/ref"
	"tabula/val"
)

// furtherPiece is a reference's text, so much further; torn, if there is none.
func furtherPiece(s string, rows int, cols int) string {
	r, _ := ref.Read(s)
	moved, err := ref.Moved(r, rows, cols)
	if err != api.OK {
		return "#REF!"
	}
	text, _ := ref.Text(moved)
	return text
}

// further is a formula whose references are so much further, made piece by piece.
func further(formula string, rows int, cols int) string {
	l, _, _ := lex.Tokens(strings.TrimPrefix(formula, "="))
	var list []api.Tok
	for i := 0; i < len(l); i++ {
		piece := l[i]
		if piece.Kind == api.TkRef {
			piece.S = furtherPiece(piece.S, rows, cols)
			if i+2 < len(l) && l[i+1].S == ":" && l[i+1].Kind == api.TkSign {
				to := l[i+2]
				to.S = furtherPiece(to.S, rows, cols)
				i += 2
				if piece.S != "#REF!" && to.S != "#REF!" {
					list = append(list, piece, l[i-1])
					piece = to
				} else {
					piece.S = "#REF!"
				}
			}
		}
		list = append(list, piece)
	}
	text, _ := lex.Print(list)
	return "=" + text
}

// isTrue asks a cell that nothing reads, and beside which nothing stands, for what a rule's formula is there.
func isTrue(b api.Book, r api.Rule, at api.At, now api.Dec) bool {
	spare := api.At{Sheet: r.Area.Sheet, Row: 100, Col: 40}
	b, _ = book.Set(b, spare, further(r.Formula, at.Row-r.Area.Row, at.Col-r.Area.Col))
	v, err := calc.Cell(b, spare, now)
	told := val.ToBool(v)
	return err == api.OK && told.Kind == api.Truth && told.B
}

// stylesOf are those of a workbook by the chapter's words, place by place.
func stylesOf(b api.Book, now api.Dec) []api.Style {
	var list []api.Style
	for sheet := range b.Sheets {
		for row := range api.MaxRows {
			for col := range api.MaxCols {
				place := api.At{Sheet: sheet, Row: row, Col: col}
				i := slices.IndexFunc(b.Rules, func(r api.Rule) bool {
					return !r.Must && ref.Has(r.Area, place) && isTrue(b, r, place, now)
				})
				if i >= 0 {
					list = append(list, api.Style{At: place, Style: b.Rules[i].Style})
				}
			}
		}
	}
	return list
}

func mayBe(b api.Book, place api.At, input string, now api.Dec) bool {
	set, _ := book.Set(b, place, input)
	for _, r := range set.Rules {
		if r.Must && ref.Has(r.Area, place) && !isTrue(set, r, place, now) {
			return false
		}
	}
	return true
}
