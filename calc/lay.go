package calc

import (
	"iter"
	"maps"
	"slices"

	"tabula/api"
	"tabula/deps"
	"tabula/islands"
	"tabula/mach"
	"tabula/places"
	"tabula/plain"
	"tabula/val"
)

// lay is a workbook that is calculated by some spills and blocked places: the answers of its formulas, and what its places show by them.
type lay struct {
	*state
	spills  map[api.At]api.Spill
	blocked map[api.At]bool
	answers []api.Val
	shown   map[api.At]api.Val
}

// by calculates a workbook.
func (s *state) by(spills []api.Spill, blocked ...api.At) *lay {
	l := &lay{state: s, spills: map[api.At]api.Spill{}, blocked: map[api.At]bool{}, answers: make([]api.Val, len(s.formulas)), shown: map[api.At]api.Val{}}
	for _, x := range spills {
		l.spills[x.At] = x
	}
	for _, at := range blocked {
		l.blocked[at] = true
	}
	for _, x := range s.literals {
		l.show(x.At, x.V)
	}
	_, edges, _ := deps.Graph(s.Book, spills)
	round := func(part []int) bool {
		changed := false
		for _, i := range part {
			changed = l.ask(i) || changed
		}
		return changed
	}
parts:
	for part, isLoop := range parts(edges) {
		if !isLoop {
			round(part)
			continue
		}
		for range api.MaxRounds {
			if !round(part) {
				continue parts
			}
		}
		for _, i := range part {
			l.answer(i, plain.Fault(api.VCirc))
		}
	}
	return l
}

// parts goes through the islands of a graph, and tells which are loops.
func parts(edges [][]int) iter.Seq2[[]int, bool] {
	return func(yield func([]int, bool) bool) {
		list, _ := islands.Parts(edges)
		for _, part := range list {
			if !yield(part, islands.IsLoop(edges, part)) {
				return
			}
		}
	}
}

// ask gives a formula its answer, and says whether that is another one than it had.
func (l *lay) ask(i int) bool {
	f := l.formulas[i]
	v, found := l.memory.find(f.question, l.in)
	if !found {
		v = l.run(f)
	}
	changed := !val.Same(v, l.answers[i])
	l.answer(i, v)
	return changed
}

func (l *lay) run(f formula) api.Val {
	m := f.question
	m.V = plain.Fault(api.VValue)
	if c, err := f.code(); err == api.OK {
		m.V, m.Areas, _ = mach.Run(c, api.Frame{Sheet: m.At.Sheet, Sheets: l.called, Vals: l.sorted(f.reads...), Now: l.now})
	}
	m.Reads = l.in(m.Areas...)
	l.memory.tell(m)
	l.memory.asked = append(l.memory.asked, m.At)
	return m.V
}

// answer gives a formula an answer, which its cell shows, and the places that it spills into.
func (l *lay) answer(i int, v api.Val) {
	l.answers[i] = v
	at := l.formulas[i].question.At
	first := v
	if v.Kind == api.Array {
		first = v.L[0]
	}
	if isSpilling(v) && l.blocked[at] {
		first = plain.Fault(api.VSpill)
	}
	for place := range places.In(places.OfSpill(l.spills[at])) {
		l.show(place, valueAt(v, place.Row-at.Row, place.Col-at.Col))
	}
	l.show(at, first)
}

func isSpilling(v api.Val) bool {
	return v.Kind == api.Array && len(v.L) > 1
}

// valueAt is an array's value; nothing, if it has none there, or is no array. (To get it by val would be to ask each time whether the whole array is right.)
func valueAt(v api.Val, row int, col int) api.Val {
	if row >= v.Rows || col >= v.Cols {
		return api.Val{}
	}
	return v.L[row*v.Cols+col]
}

func (l *lay) show(at api.At, v api.Val) {
	switch v.Kind {
	case api.Empty:
		delete(l.shown, at)
		return
	case api.Func:
		v = plain.Fault(api.VValue)
	}
	l.shown[at] = v
}

// askedFor are the spills of all arrays.
func (l *lay) askedFor() []api.Spill {
	var list []api.Spill
	for i, v := range l.answers {
		if isSpilling(v) {
			list = append(list, api.Spill{At: l.formulas[i].question.At, Rows: v.Rows, Cols: v.Cols})
		}
	}
	return list
}

// in is what places of some areas show that show something, area by area.
func (l *lay) in(areas ...api.Area) []api.Shown {
	var list []api.Shown
	for _, a := range areas {
		for at := range places.In(a) {
			if v, found := l.shown[at]; found {
				list = append(list, api.Shown{At: at, V: v})
			}
		}
	}
	return list
}

// sorted is what places of some areas show, in order, each once. A formula has no need of others than those that it may read.
func (l *lay) sorted(areas ...api.Area) []api.Shown {
	list := l.in(areas...)
	slices.SortFunc(list, order)
	return slices.CompactFunc(list, func(a, b api.Shown) bool { return a.At == b.At })
}

// values are what all places show that show something, in order.
func (l *lay) values() []api.Shown {
	var list []api.Shown
	for _, at := range slices.SortedFunc(maps.Keys(l.shown), places.Compare) {
		list = append(list, api.Shown{At: at, V: l.shown[at]})
	}
	return list
}

func order(a api.Shown, b api.Shown) int {
	return places.Compare(a.At, b.At)
}
