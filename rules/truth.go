package rules

import (
	"tabula/api"
	"tabula/bare"
	"tabula/calc"
	"tabula/code"
	"tabula/mach"
	"tabula/names"
	"tabula/ref"
	"tabula/right"
	"tabula/val"
)

// truths tells of each rule of a right workbook where it is true. Names are put in by a workbook without cells, as these make no difference to them.
func truths(b api.Book, now api.Dec) func(r api.Rule) func(at api.At) bool {
	vals, _ := calc.Values(b, now)
	known := bare.Book(b)
	known.Names = b.Names
	var called []string
	for _, s := range b.Sheets {
		called = append(called, s.Name)
	}
	return func(r api.Rule) func(at api.At) bool {
		frame := api.Frame{Sheet: r.Area.Sheet, Sheets: called, Vals: vals, Now: now}
		formula, _ := right.Tree(r.Formula)
		return func(at api.At) bool {
			n, err := names.Expand(known, r.Area.Sheet, moved(formula, at.Row-r.Area.Row, at.Col-r.Area.Col))
			return err == api.OK && isTrue(n, frame)
		}
	}
}

// isTrue says whether a tree's value is true; of an array it is the first one.
func isTrue(n api.Node, f api.Frame) bool {
	c, err := code.Compile(n)
	if err != api.OK {
		return false
	}
	v, _, err := mach.Run(c, f)
	return err == api.OK && val.ToBool(val.Get(v, 0, 0)).B
}

// moved is a tree whose references are so many rows and columns further; those that would be beyond the sheet are torn.
func moved(n api.Node, rows int, cols int) api.Node {
	var kids []api.Node
	for _, kid := range n.Kids {
		kids = append(kids, moved(kid, rows, cols))
	}
	n.Kids = kids
	var from, to api.Errno
	switch n.Kind {
	case api.NRange:
		n.To, to = ref.Moved(n.To, rows, cols)
		fallthrough
	case api.NRef:
		n.Ref, from = ref.Moved(n.Ref, rows, cols)
	}
	if from != api.OK || to != api.OK {
		return api.Node{Kind: api.NRef, Ref: api.Ref{Bad: true}}
	}
	return n
}
