package rebase_test

import (
	"strings"

	"tabula/api"
	"tabula/book"
	"tabula/op"
	"tabula/shift"
	"tabula/tree"
)

// structural is the structural edit of an operation on a workbook, and the sheet's number, as the chapter's words say.
func structural(b api.Book, o api.Op) (api.Shift, int) {
	kind, at := o.Kind, o.Row+o.Col
	s := api.Shift{Sheet: b.Sheets[o.Sheet].Name, At: at, N: o.N}
	switch kind {
	case api.OpRowsIn, api.OpRowsOut, api.OpColsIn, api.OpColsOut:
		s.Kind = kind - 1
	case api.OpSheetOut:
		s = api.Shift{Kind: api.ShGone, Sheet: s.Sheet}
	case api.OpRename:
		s = api.Shift{Kind: api.ShRename, Sheet: s.Sheet, Name: o.Name}
	}
	return s, o.Sheet
}

// reverse is the one back, on the workbook behind the operation.
func reverse(b api.Book, o api.Op) (api.Shift, int) {
	if o.Kind == api.OpSheetIn {
		return api.Shift{Kind: api.ShGone, Sheet: o.Name}, len(b.Sheets)
	}
	s, sheet := structural(b, o)
	switch s.Kind {
	case api.ShRowsIn, api.ShColsIn:
		s.Kind++
	case api.ShRowsOut, api.ShColsOut:
		s.Kind--
	case api.ShRename:
		s.Sheet, s.Name = o.Name, s.Sheet
	}
	return s, sheet
}

func barely(b api.Book) api.Book {
	bare := api.Book{Tables: append([]api.Table(nil), b.Tables...)}
	for _, s := range b.Sheets {
		bare.Sheets = append(bare.Sheets, api.Sheet{Name: s.Name})
	}
	return bare
}

// ruleStays says whether a rule is left behind an edit of its workbook.
func ruleStays(b api.Book, r api.Rule, s api.Shift) bool {
	bare := barely(b)
	bare.Rules = []api.Rule{r}
	after, err := shift.Book(bare, s)
	return err == api.OK && len(after.Rules) == 1
}

// thingAlong is an operation that puts a thing in, gone along.
func thingAlong(b api.Book, o api.Op, s api.Shift) (api.Op, api.Errno) {
	bare, empty := barely(b), o.S == ""
	switch {
	case o.Kind == api.OpSet && empty:
		bare.Sheets[o.Sheet].Cells = []api.Cell{{Row: o.Row, Col: o.Col, Input: "0"}}
	case o.Kind == api.OpSet:
		bare.Sheets[o.Sheet].Cells = []api.Cell{{Row: o.Row, Col: o.Col, Input: o.S}}
	case o.Kind == api.OpName && empty:
		bare.Names = []api.Name{{Name: o.Name, Sheet: o.Sheet, Input: "=0"}}
	case o.Kind == api.OpName:
		bare.Names = []api.Name{{Name: o.Name, Sheet: o.Sheet, Input: o.S}}
	case o.Kind == api.OpTable:
		bare.Tables = append(bare.Tables, o.Table)
	default:
		bare.Rules = []api.Rule{o.Rule}
	}
	after, err := shift.Book(bare, s)
	if err != api.OK {
		return api.Op{}, api.ErrTangled
	}
	for i, sheet := range after.Sheets {
		for _, c := range sheet.Cells {
			o.Sheet, o.Row, o.Col = i, c.Row, c.Col
			if !empty {
				o.S = c.Input
			}
			return o, api.OK
		}
	}
	for _, n := range after.Names {
		o.Sheet = n.Sheet
		if !empty {
			o.S = n.Input
		}
		return o, api.OK
	}
	for _, t := range after.Tables {
		if o.Kind == api.OpTable && t.Name == o.Table.Name {
			o.Table = t
			return o, api.OK
		}
	}
	for _, r := range after.Rules {
		o.Rule = r
		return o, api.OK
	}
	return api.Op{}, api.ErrNothing
}

// linesAlong are lines that an operation puts in or takes out, of the first one and how many, gone along with an edit of such ones.
func linesAlong(first int, count int, isOut bool, s api.Shift) (int, int, api.Errno) {
	gone := func(n int) bool { return n >= s.At && n < s.At+s.N }
	switch {
	case s.Kind == api.ShRowsIn || s.Kind == api.ShColsIn:
		if first >= s.At {
			return first + s.N, count, api.OK
		}
		if isOut && first+count > s.At {
			return 0, 0, api.ErrTangled
		}
	case isOut:
		ahead, left := 0, 0
		for n := range first + count {
			switch {
			case gone(n):
			case n < first:
				ahead++
			default:
				left++
			}
		}
		if left == 0 {
			return 0, 0, api.ErrNothing
		}
		return ahead, left, api.OK
	case first >= s.At+s.N:
		return first - s.N, count, api.OK
	case first > s.At:
		return s.At, count, api.OK
	}
	return first, count, api.OK
}

// wentAlong is an operation gone along with an edit on a workbook.
func wentAlong(b api.Book, o api.Op, s api.Shift, sheet int) (api.Op, api.Errno) {
	err := api.OK
	isOut := o.Kind == api.OpRowsOut || o.Kind == api.OpColsOut
	switch o.Kind {
	case api.OpSet, api.OpName, api.OpTable, api.OpRule:
		return thingAlong(b, o, s)
	case api.OpSheetIn:
		return o, api.OK
	case api.OpNoRule:
		if !ruleStays(b, b.Rules[o.N], s) {
			return api.Op{}, api.ErrNothing
		}
		ahead := 0
		for _, r := range b.Rules[:o.N] {
			if ruleStays(b, r, s) {
				ahead++
			}
		}
		o.N = ahead
		return o, api.OK
	case api.OpNoTable:
		after, err := shift.Book(barely(b), s)
		if err != api.OK {
			return api.Op{}, api.ErrTangled
		}
		for _, t := range after.Tables {
			if strings.EqualFold(t.Name, o.Name) {
				return o, api.OK
			}
		}
		return api.Op{}, api.ErrNothing
	}
	isRows := s.Kind == api.ShRowsIn || s.Kind == api.ShRowsOut
	isCols := s.Kind == api.ShColsIn || s.Kind == api.ShColsOut
	switch {
	case s.Kind == api.ShGone && o.Sheet == sheet:
		return api.Op{}, api.ErrNothing
	case s.Kind == api.ShGone && o.Sheet > sheet:
		o.Sheet--
	case o.Sheet == sheet && isRows && (o.Kind == api.OpRowsIn || o.Kind == api.OpRowsOut):
		o.Row, o.N, err = linesAlong(o.Row, o.N, isOut, s)
	case o.Sheet == sheet && isCols && (o.Kind == api.OpColsIn || o.Kind == api.OpColsOut):
		o.Col, o.N, err = linesAlong(o.Col, o.N, isOut, s)
	}
	return o, err
}

// firstWrong is what both promises name ahead of all else.
func firstWrong(b api.Book, o api.Op, by api.Op) (api.Book, api.Errno) {
	if _, err := book.Check(b); err != api.OK {
		return api.Book{}, err
	}
	if !op.Right(o) || !op.Right(by) {
		return api.Book{}, api.ErrOp
	}
	return op.Apply(b, by)
}

func last(b api.Book, o api.Op, err api.Errno) (api.Op, api.Errno) {
	if err != api.OK {
		return api.Op{}, err
	}
	if _, wrong := op.Apply(b, o); wrong != api.OK {
		return api.Op{}, api.ErrTangled
	}
	return o, api.OK
}

// over is what P19.1 says, word by word.
func over(b api.Book, o api.Op, by api.Op) (api.Op, api.Errno) {
	behind, err := firstWrong(b, o, by)
	if err != api.OK {
		return api.Op{}, err
	}
	if _, err = op.Apply(b, o); err != api.OK {
		return api.Op{}, err
	}
	switch {
	case by.Kind >= api.OpRowsIn && by.Kind <= api.OpColsOut || by.Kind == api.OpSheetOut || by.Kind == api.OpRename:
		s, sheet := structural(b, by)
		o, err = wentAlong(b, o, s, sheet)
	case by.Kind == api.OpNoRule && o.Kind == api.OpNoRule:
		if o.N == by.N {
			return api.Op{}, api.ErrNothing
		}
		if o.N > by.N {
			o.N--
		}
	case by.Kind == api.OpName && by.S == "" && o.Kind == api.OpName && o.S == "" && o.Sheet == by.Sheet && strings.EqualFold(o.Name, by.Name),
		by.Kind == api.OpNoTable && o.Kind == api.OpNoTable && strings.EqualFold(o.Name, by.Name):
		return api.Op{}, api.ErrNothing
	}
	return last(behind, o, err)
}

// bad is how many references of a formula are torn.
func bad(s string) int {
	if !strings.HasPrefix(s, "=") {
		return 0
	}
	n, _, _ := tree.Read(s[1:])
	text, _ := tree.Print(n)
	return strings.Count(text, "#REF!")
}

// ruleBefore is the number that a rule behind an edit has ahead of it.
func ruleBefore(b api.Book, n int, s api.Shift) int {
	for i, r := range b.Rules {
		if ruleStays(b, r, s) {
			n--
		}
		if n < 0 {
			return i
		}
	}
	return -1
}

// back is what P19.2 says, word by word.
func back(b api.Book, o api.Op, by api.Op) (api.Op, api.Errno) {
	behind, err := firstWrong(b, o, by)
	if err != api.OK {
		return api.Op{}, err
	}
	if _, err = op.Apply(behind, o); err != api.OK {
		return api.Op{}, err
	}
	isEdit := by.Kind >= api.OpRowsIn && by.Kind <= api.OpColsOut || by.Kind == api.OpRename
	switch {
	case o.Kind == api.OpNoRule && (isEdit || by.Kind == api.OpSheetOut):
		s, _ := structural(b, by)
		o.N = ruleBefore(b, o.N, s)
	case o.Kind == api.OpNoRule && by.Kind == api.OpSheetIn:
	case isEdit || by.Kind == api.OpSheetIn:
		before := bad(o.S) + bad(o.Rule.Formula)
		s, sheet := reverse(b, by)
		o, err = wentAlong(behind, o, s, sheet)
		if err == api.OK && bad(o.S)+bad(o.Rule.Formula) > before {
			err = api.ErrTangled
		}
	case by.Kind == api.OpSheetOut:
		switch {
		case o.Kind == api.OpTable && o.Table.Sheet >= by.Sheet:
			o.Table.Sheet++
		case o.Kind == api.OpRule && o.Rule.Area.Sheet >= by.Sheet:
			o.Rule.Area.Sheet++
		case o.Kind != api.OpTable && o.Kind != api.OpRule && o.Kind != api.OpNoTable && o.Kind != api.OpSheetIn && o.Sheet >= by.Sheet:
			o.Sheet++
		}
	case by.Kind == api.OpRule && o.Kind == api.OpNoRule && o.N == len(b.Rules):
		return api.Op{}, api.ErrNothing
	case by.Kind == api.OpNoRule && o.Kind == api.OpNoRule && o.N >= by.N:
		o.N++
	case by.Kind == api.OpName && o.Kind == api.OpName && o.S == "" && o.Sheet == by.Sheet && strings.EqualFold(o.Name, by.Name):
		without := true
		for _, n := range b.Names {
			without = without && !(n.Sheet == o.Sheet && strings.EqualFold(n.Name, o.Name))
		}
		if without {
			return api.Op{}, api.ErrNothing
		}
	case by.Kind == api.OpTable && o.Kind == api.OpNoTable && strings.EqualFold(o.Name, by.Table.Name):
		return api.Op{}, api.ErrNothing
	}
	return last(b, o, err)
}
