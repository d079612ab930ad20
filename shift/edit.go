package shift

import (
	"cmp"

	"tabula/api"
	"tabula/letters"
)

// edit is one as formulas of one sheet see it, and the columns of tables that are lost by it.
type edit struct {
	api.Shift
	own  string
	lost func(column string) bool
}

// torn is what is left of what is gone.
func torn() api.Node {
	return api.Node{Kind: api.NRef, Ref: api.Ref{Bad: true}}
}

// tree takes all references, ranges and columns of a tree along.
func (e edit) tree(n api.Node) api.Node {
	var along func(n api.Node) api.Node
	along = func(n api.Node) api.Node {
		var kids []api.Node
		for _, kid := range n.Kids {
			kids = append(kids, along(kid))
		}
		n.Kids = kids
		return e.node(n)
	}
	return along(n)
}

// node takes one along by itself. A reference is a range of which both ends are the same.
func (e edit) node(n api.Node) api.Node {
	stays := true
	switch {
	case n.Kind == api.NRef && !n.Ref.Bad:
		n.Ref, _, stays = e.ends(n.Ref, n.Ref)
	case n.Kind == api.NRange:
		n.Ref, n.To, stays = e.ends(n.Ref, n.To)
	case n.Kind == api.NCol && e.lost != nil:
		stays = !e.lost(n.S)
	}
	if !stays {
		return torn()
	}
	return n
}

// ends takes those of a range along; false, if it is torn.
func (e edit) ends(a api.Ref, b api.Ref) (api.Ref, api.Ref, bool) {
	if !letters.Alike(cmp.Or(a.Sheet, e.own), e.Sheet) {
		return a, b, true
	}
	stays := true
	switch e.Kind {
	case api.ShRename:
		if a.Sheet != "" {
			a.Sheet = e.Name
		}
	case api.ShGone:
		stays = a.Sheet == ""
	case api.ShRowsIn, api.ShRowsOut:
		a.Row, b.Row, stays = e.numbers(a.Row, b.Row)
	default:
		a.Col, b.Col, stays = e.numbers(a.Col, b.Col)
	}
	return a, b, stays
}

// numbers takes two along, whichever is the lesser one.
func (e edit) numbers(a int, b int) (int, int, bool) {
	if a <= b {
		return e.span(a, b)
	}
	from, to, stays := e.span(b, a)
	return to, from, stays
}

// span takes what is from one number to another one along: from the first one that is left to the last one, as far as the sheet goes; false, if none is.
func (e edit) span(from int, to int) (int, int, bool) {
	from, to = e.begin(from), e.end(to)
	return from, min(to, e.count()-1), from <= to && from < e.count()
}

func (e edit) begin(n int) int {
	moved, stays := e.moved(n)
	if !stays {
		return e.At
	}
	return moved
}

func (e edit) end(n int) int {
	moved, stays := e.moved(n)
	if !stays {
		return e.At - 1
	}
	return moved
}

// moved is where a number moves, be it beyond the sheet; false, if it is gone.
func (e edit) moved(n int) (int, bool) {
	switch {
	case n < e.At:
		return n, true
	case e.Kind == api.ShRowsIn || e.Kind == api.ShColsIn:
		return n + e.N, true
	case n < e.At+e.N:
		return 0, false
	}
	return n - e.N, true
}

func (e edit) isOfRows() bool {
	return e.Kind == api.ShRowsIn || e.Kind == api.ShRowsOut
}

func (e edit) isOfCols() bool {
	return e.Kind == api.ShColsIn || e.Kind == api.ShColsOut
}

// count is how many rows, or columns, a sheet has.
func (e edit) count() int {
	if e.isOfRows() {
		return api.MaxRows
	}
	return api.MaxCols
}
