package deps

import (
	"iter"

	"tabula/api"
	"tabula/book"
	"tabula/ref"
)

// reader knows on which sheet a tree's references are.
type reader struct {
	book  api.Book
	sheet int
}

func (r reader) all(n api.Node) []api.Area {
	var list []api.Area
	for a := range r.areas(n) {
		list = append(list, a)
	}
	return list
}

// areas goes through those of a tree, as they stand in it.
func (r reader) areas(n api.Node) iter.Seq[api.Area] {
	return func(yield func(api.Area) bool) { r.walk(n, yield) }
}

// walk is false, if it was left.
func (r reader) walk(n api.Node, yield func(api.Area) bool) bool {
	if a, found := r.area(n); found && !yield(a) {
		return false
	}
	for _, kid := range n.Kids {
		if !r.walk(kid, yield) {
			return false
		}
	}
	return true
}

// area is that of a node alone.
func (r reader) area(n api.Node) (api.Area, bool) {
	from, to := n.Ref, n.To
	switch n.Kind {
	case api.NRef:
		to = from
	case api.NRange:
	default:
		return api.Area{}, false
	}
	sheet := r.sheet
	if from.Sheet != "" {
		found := false
		if sheet, found = book.Sheet(r.book, from.Sheet); !found {
			return api.Area{}, false
		}
	}
	a, err := ref.Area(from, to, sheet)
	return a, err == api.OK
}
