package calc_test

import (
	"slices"
	"strings"

	"tabula/api"
	"tabula/book"
	"tabula/code"
	"tabula/deps"
	"tabula/islands"
	"tabula/mach"
	"tabula/names"
	"tabula/ref"
	"tabula/spill"
	"tabula/tree"
	"tabula/val"
)

// oracle calculates a workbook by the chapter's words, one after the other, with lists alone.
type oracle struct {
	b        api.Book
	inputs   map[api.At]string
	now      api.Dec
	given    []api.Memo
	told     []api.Memo
	asked    []api.At
	formulas []api.At
	answers  []api.Val
	spills   []api.Spill
	blocked  []api.At
}

func fault(n int) api.Val { return api.Val{Kind: api.Fault, Err: n} }

func area(s api.Spill) api.Area {
	return api.Area{Sheet: s.At.Sheet, Row: s.At.Row, Col: s.At.Col, Rows: s.Rows, Cols: s.Cols}
}

// show is what a cell shows.
func (o *oracle) show(at api.At) api.Val {
	v := o.showAny(at)
	if v.Kind == api.Func {
		return fault(api.VValue)
	}
	return v
}

func (o *oracle) showAny(at api.At) api.Val {
	input := o.inputs[at]
	switch {
	case input == "":
		s, ok := spill.Cover(o.spills, at)
		if !ok {
			return api.Val{}
		}
		v := o.answers[slices.Index(o.formulas, s.At)]
		row, col := at.Row-s.At.Row, at.Col-s.At.Col
		if v.Kind != api.Array || row >= v.Rows || col >= v.Cols {
			return api.Val{}
		}
		return val.Get(v, row, col)
	case input[0] != '=':
		v, _ := val.Read(input)
		return v
	}
	v := o.answers[slices.Index(o.formulas, at)]
	switch {
	case v.Kind == api.Array && len(v.L) == 1:
		return v.L[0]
	case v.Kind == api.Array && slices.Contains(o.blocked, at):
		return fault(api.VSpill)
	case v.Kind == api.Array:
		return v.L[0]
	}
	return v
}

// places are all that may show something, in order.
func (o *oracle) places() []api.At {
	var list []api.At
	for at := range o.inputs {
		list = append(list, at)
	}
	for _, s := range o.spills {
		for row := range s.Rows {
			for col := range s.Cols {
				list = append(list, api.At{Sheet: s.At.Sheet, Row: s.At.Row + row, Col: s.At.Col + col})
			}
		}
	}
	slices.SortFunc(list, func(a, b api.At) int {
		return (a.Sheet-b.Sheet)*20000 + (a.Row-b.Row)*100 + a.Col - b.Col
	})
	return slices.Compact(list)
}

func (o *oracle) shown() []api.Shown {
	var list []api.Shown
	for _, at := range o.places() {
		if v := o.show(at); v.Kind != api.Empty {
			list = append(list, api.Shown{At: at, V: v})
		}
	}
	return list
}

func (o *oracle) in(areas []api.Area) []api.Shown {
	var list []api.Shown
	all := o.shown()
	for _, a := range areas {
		for _, s := range all {
			if ref.Has(a, s.At) {
				list = append(list, s)
			}
		}
	}
	return list
}

func sameShown(a []api.Shown, b []api.Shown) bool {
	return slices.EqualFunc(a, b, func(x, y api.Shown) bool { return x.At == y.At && val.Same(x.V, y.V) })
}

func (o *oracle) ask(i int) api.Val {
	at := o.formulas[i]
	q := api.Memo{At: at, V: fault(api.VValue)}
	var called []string
	for _, s := range o.b.Sheets {
		called = append(called, s.Name)
		q.Text += s.Name + "\n"
	}
	n, _, wrong := names.Formula(o.b, at)
	text, _ := tree.Print(n)
	q.Text += text
	if q.Timed = strings.Contains(text, "NOW("); q.Timed {
		q.Now = o.now
	}
	for k, m := range slices.Concat(o.told, o.given) {
		if m.At == q.At && m.Text == q.Text && m.Timed == q.Timed && m.Now == q.Now && sameShown(o.in(m.Areas), m.Reads) {
			if k >= len(o.told) {
				o.told = append(o.told, m)
			}
			return m.V
		}
	}
	if c, err := code.Compile(n); err == api.OK && wrong == api.OK {
		q.V, q.Areas, _ = mach.Run(c, api.Frame{Sheet: at.Sheet, Sheets: called, Vals: o.shown(), Now: o.now})
	}
	q.Reads = o.in(q.Areas)
	o.told = append(o.told, q)
	o.asked = append(o.asked, at)
	return q.V
}

func (o *oracle) calculateBy(spills []api.Spill, blocked []api.At) {
	o.spills, o.blocked = spills, blocked
	at, edges, _ := deps.Graph(o.b, spills)
	o.formulas, o.answers = at, make([]api.Val, len(at))
	list, _ := islands.Parts(edges)
	for _, part := range list {
		if !islands.IsLoop(edges, part) {
			o.answers[part[0]] = o.ask(part[0])
			continue
		}
		rounds, changed := 0, true
		for changed && rounds < 20 {
			rounds, changed = rounds+1, false
			for _, i := range part {
				v := o.ask(i)
				changed = changed || !val.Same(v, o.answers[i])
				o.answers[i] = v
			}
		}
		if changed {
			for _, i := range part {
				o.answers[i] = fault(api.VCirc)
			}
		}
	}
}

func (o *oracle) calculate() {
	o.inputs = map[api.At]string{}
	cells, _ := book.Cells(o.b)
	for _, at := range cells {
		o.inputs[at], _ = book.Get(o.b, at)
	}
	o.calculateBy(nil, nil)
	for lays := 1; ; lays++ {
		var wanted []api.Spill
		for i, v := range o.answers {
			if v.Kind == api.Array && len(v.L) > 1 {
				wanted = append(wanted, api.Spill{At: o.formulas[i], Rows: v.Rows, Cols: v.Cols})
			}
		}
		placed, blocked, _ := spill.Place(o.b, wanted)
		if slices.Equal(placed, o.spills) && slices.Equal(blocked, o.blocked) {
			return
		}
		if lays == 8 {
			break
		}
		o.calculateBy(placed, blocked)
	}
	o.calculateBy(nil, cells)
}
