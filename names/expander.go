package names

import (
	"slices"
	"strings"

	"tabula/api"
	"tabula/letters"
	"tabula/tree"
)

// allSheets is the sheet of a name that is one of all.
const allSheets = -1

// tooMuch is what the expander is left by: each node that it makes is one of the whole tree, so that it need not go on.
type tooMuch struct{}

// expander knows which names are being put in, by their numbers, and how many nodes there are.
type expander struct {
	book  api.Book
	putIn map[int]bool
	nodes int
}

func (x *expander) count(nodes int) {
	x.nodes += nodes
	if x.nodes > api.MaxNodes {
		panic(tooMuch{})
	}
}

// leaf is a node without kids.
func (x *expander) leaf(n api.Node) api.Node {
	x.count(1)
	return n
}

func (x *expander) unknown() api.Node {
	return x.leaf(api.Node{Kind: api.NFault, Err: api.VName})
}

// stands is what a name stands for, of which the number is told; an error, if it is being put in already.
func (x *expander) stands(number int) api.Node {
	if x.putIn[number] {
		return x.unknown()
	}
	x.putIn[number] = true
	defer delete(x.putIn, number)
	name := x.book.Names[number]
	n, _, _ := tree.Read(strings.TrimPrefix(name.Input, "="))
	v := view{x: x, sheet: name.Sheet}
	if n.Kind != api.NFunc {
		return v.expand(n)
	}
	n = v.within([]string{name.Name}).expand(n)
	if !uses(n, name.Name) {
		return n
	}
	x.count(1)
	return api.Node{Kind: api.NLet, S: name.Name, Kids: []api.Node{n, x.leaf(api.Node{Kind: api.NName, S: name.Name})}}
}

// view is how names are seen: from which sheet, and which are local there.
type view struct {
	x     *expander
	sheet int
	local []string
}

func (v view) within(local []string) view {
	v.local = slices.Concat(v.local, local)
	return v
}

func (v view) expand(n api.Node) api.Node {
	puts := map[int]func(api.Node) api.Node{api.NName: v.name, api.NCall: v.call, api.NCol: v.column}
	put, found := puts[n.Kind]
	if !found {
		put = v.kept
	}
	return put(n)
}

// kept is a node that stays, with its kids expanded.
func (v view) kept(n api.Node) api.Node {
	v.x.count(1)
	n.Kids = v.kids(n)
	return n
}

func (v view) kids(n api.Node) []api.Node {
	var kids []api.Node
	for i, kid := range n.Kids {
		kids = append(kids, v.within(made(n, i)).expand(kid))
	}
	return kids
}

func (v view) name(n api.Node) api.Node {
	if isAmong(v.local, n.S) {
		return v.kept(n)
	}
	number, found := v.find(n.S)
	if !found {
		return v.x.unknown()
	}
	return v.x.stands(number)
}

func (v view) call(n api.Node) api.Node {
	number, found := v.find(n.S)
	if !found || isAmong(v.local, n.S) {
		return v.kept(n)
	}
	v.x.count(1)
	return api.Node{Kind: api.NApply, Kids: append([]api.Node{v.x.stands(number)}, v.kids(n)...)}
}

func (v view) column(n api.Node) api.Node {
	table, column, _ := strings.Cut(strings.TrimSuffix(n.S, "]"), "[")
	for _, t := range v.x.book.Tables {
		if i := indexOf(t.Cols, column); i >= 0 && letters.Alike(t.Name, table) {
			return v.x.leaf(v.rows(t, t.Col+i))
		}
	}
	return v.x.unknown()
}

// rows are those of a table's column below its head.
func (v view) rows(t api.Table, col int) api.Node {
	n := api.Node{Kind: api.NRange, Ref: api.Ref{Row: t.Row + 1, Col: col}, To: api.Ref{Row: t.Row + t.Rows, Col: col}}
	if t.Sheet != v.sheet {
		n.Ref.Sheet = v.x.book.Sheets[t.Sheet].Name
	}
	return n
}

// find is the number of the name of a text: that of the sheet goes ahead of that of all sheets.
func (v view) find(text string) (int, bool) {
	for _, sheet := range []int{v.sheet, allSheets} {
		for i, name := range v.x.book.Names {
			if name.Sheet == sheet && letters.Alike(name.Name, text) {
				return i, true
			}
		}
	}
	return 0, false
}

// made are the local names that a node makes for one of its kids. (A function without names makes an empty one, which nothing is called.)
func made(n api.Node, kid int) []string {
	if n.Kind != api.NFunc && n.Kind != api.NLet {
		return nil
	}
	list := strings.Split(n.S, ",")
	switch {
	case n.Kind == api.NFunc:
		return list
	case kid < len(list) && n.Kids[kid].Kind == api.NFunc:
		return list[:kid+1]
	}
	return list[:kid]
}

// uses says whether a name is used in a tree where no local name of the same text is nearer, whatever it was expanded from.
func uses(n api.Node, name string) bool {
	if (n.Kind == api.NName || n.Kind == api.NCall) && letters.Alike(n.S, name) {
		return true
	}
	for i, kid := range n.Kids {
		if !isAmong(made(n, i), name) && uses(kid, name) {
			return true
		}
	}
	return false
}

func isAmong(list []string, name string) bool {
	return indexOf(list, name) >= 0
}

func indexOf(list []string, name string) int {
	return slices.IndexFunc(list, func(s string) bool { return letters.Alike(s, name) })
}
