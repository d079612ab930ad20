package rebase

import (
	"slices"

	"tabula/api"
	"tabula/bare"
	"tabula/edits"
	"tabula/letters"
	"tabula/right"
	"tabula/shift"
	"tabula/wrong"
)

// edit is a structural edit on a workbook, and the number of the sheet that it is of.
type edit struct {
	api.Shift
	on    api.Book
	sheet int
}

// along is an operation as it is behind the edit.
func (e edit) along(o api.Op) (api.Op, error) {
	switch o.Kind {
	case api.OpSet:
		return e.carry(cell{o})
	case api.OpName:
		return e.carry(name{o})
	case api.OpTable:
		return e.carry(table{o})
	case api.OpRule:
		return e.carry(rule{o})
	case api.OpNoRule:
		return e.ruleOut(o)
	case api.OpNoTable:
		return o, e.leaves(o.Name)
	case api.OpSheetIn:
		return o, nil
	}
	if e.Kind == api.ShGone {
		return e.withoutSheet(o)
	}
	return e.lines(o)
}

// carry takes a thing along in a workbook that has little else: what else there is can't change it.
func (e edit) carry(t thing) (api.Op, error) {
	b := bare.Book(e.on)
	t.lay(&b)
	behind, errno := shift.Book(b, e.Shift)
	if errno != api.OK {
		return api.Op{}, wrong.Of(api.ErrTangled)
	}
	o, stays := t.left(behind)
	if !stays {
		return api.Op{}, wrong.Of(api.ErrNothing)
	}
	return o, nil
}

// leaves tells that nothing is left to be done, if there is no table of that name any more.
func (e edit) leaves(table string) error {
	behind, errno := shift.Book(bare.Book(e.on), e.Shift)
	if errno != api.OK {
		return wrong.Of(api.ErrTangled)
	}
	for _, t := range behind.Tables {
		if letters.Alike(t.Name, table) {
			return nil
		}
	}
	return wrong.Of(api.ErrNothing)
}

func (e edit) ruleOut(o api.Op) (api.Op, error) {
	n := slices.Index(e.rulesLeft(), o.N)
	if n < 0 {
		return api.Op{}, wrong.Of(api.ErrNothing)
	}
	o.N = n
	return o, nil
}

// rulesLeft are the numbers of the rules that are not gone with the edit.
func (e edit) rulesLeft() []int {
	var list []int
	for i, r := range e.on.Rules {
		_, err := e.carry(rule{api.Op{Kind: api.OpRule, Rule: r}})
		if wrong.Number(err) != api.ErrNothing {
			list = append(list, i)
		}
	}
	return list
}

func (e edit) withoutSheet(o api.Op) (api.Op, error) {
	if o.Sheet == e.sheet {
		return api.Op{}, wrong.Of(api.ErrNothing)
	}
	if o.Sheet > e.sheet {
		o.Sheet--
	}
	return o, nil
}

// lines takes rows along with an edit of rows of the same sheet, columns with one of columns.
func (e edit) lines(o api.Op) (api.Op, error) {
	var err error
	isRows, isCols := e.Kind == api.ShRowsIn || e.Kind == api.ShRowsOut, e.Kind == api.ShColsIn || e.Kind == api.ShColsOut
	switch {
	case o.Sheet != e.sheet:
	case isRows && (o.Kind == api.OpRowsIn || o.Kind == api.OpRowsOut):
		o.Row, o.N, err = e.run(o.Row, o.N, o.Kind == api.OpRowsOut)
	case isCols && (o.Kind == api.OpColsIn || o.Kind == api.OpColsOut):
		o.Col, o.N, err = e.run(o.Col, o.N, o.Kind == api.OpColsOut)
	}
	if err != nil {
		return api.Op{}, err
	}
	return o, nil
}

// run takes along the first one of some lines, and how many they are. What takes lines out can't go round others that are put in between them.
func (e edit) run(first int, count int, takesOut bool) (int, int, error) {
	isIn := e.Kind == api.ShRowsIn || e.Kind == api.ShColsIn
	switch {
	case isIn && first >= e.At:
		return first + e.N, count, nil
	case isIn && takesOut && first+count > e.At:
		return 0, 0, wrong.Of(api.ErrTangled)
	case isIn:
		return first, count, nil
	}
	if takesOut {
		count -= e.taken(first, first+count)
	}
	if count == 0 {
		return 0, 0, wrong.Of(api.ErrNothing)
	}
	return first - e.taken(0, first), count, nil
}

// taken is how many lines are taken out from one on, ahead of another one.
func (e edit) taken(from int, to int) int {
	return max(0, min(to, e.At+e.N)-max(from, e.At))
}

// isEdit says whether an operation is a structural edit of a sheet that there is.
func isEdit(o api.Op) bool {
	return edits.Of(o, "").Kind != 0
}

// sheetOf is where an operation tells which sheet it is of; nil, if it is of none.
func sheetOf(o *api.Op) *int {
	switch o.Kind {
	case api.OpSheetIn, api.OpNoTable, api.OpNoRule:
		return nil
	case api.OpTable:
		return &o.Table.Sheet
	case api.OpRule:
		return &o.Rule.Area.Sheet
	}
	return &o.Sheet
}

// torn is how many references of an operation's formula are torn.
func torn(o api.Op) int {
	count := 0
	var look func(n api.Node)
	look = func(n api.Node) {
		if n.Ref.Bad {
			count++
		}
		for _, kid := range n.Kids {
			look(kid)
		}
	}
	for _, formula := range []string{o.S, o.Rule.Formula} {
		n, _ := right.Tree(formula)
		look(n)
	}
	return count
}
