package calc

import (
	"slices"

	"tabula/api"
	"tabula/fresh"
	"tabula/plain"
	"tabula/right"
	"tabula/val"
)

// memory has what was told ahead, by places; what came up since, and where that is told; and which formulas were asked.
type memory struct {
	given map[api.At][]api.Memo
	mine  map[api.At][]int
	told  []api.Memo
	asked []api.At
}

// newMemory leaves out what no formula can have been told.
func newMemory(m []api.Memo) *memory {
	y := &memory{given: map[api.At][]api.Memo{}, mine: map[api.At][]int{}}
	for _, x := range m {
		if val.Right(x.V) && !slices.ContainsFunc(x.Areas, isWrong) {
			y.given[x.At] = append(y.given[x.At], x)
		}
	}
	return y
}

func isWrong(a api.Area) bool {
	return !right.Area(a)
}

// find is the answer of a question that came up, be it one that was told ahead: then it comes up now. Its areas are those that it was told with; what they show now is asked for.
func (y *memory) find(question api.Memo, shows func(...api.Area) []api.Shown) (api.Val, bool) {
	isIt := func(m api.Memo) bool {
		if m.Text != question.Text || m.Timed != question.Timed || m.Now != question.Now {
			return false
		}
		return slices.EqualFunc(shows(m.Areas...), m.Reads, sameShown)
	}
	for _, i := range y.mine[question.At] {
		if isIt(y.told[i]) {
			return y.told[i].V, true
		}
	}
	for _, m := range y.given[question.At] {
		if isIt(m) {
			m.V, m.Areas, m.Reads = plain.Fresh(m.V), fresh.List(m.Areas), shows(m.Areas...)
			y.tell(m)
			return m.V, true
		}
	}
	return api.Val{}, false
}

func (y *memory) tell(m api.Memo) {
	y.mine[m.At] = append(y.mine[m.At], len(y.told))
	y.told = append(y.told, m)
}

func sameShown(a api.Shown, b api.Shown) bool {
	return a.At == b.At && val.Same(a.V, b.V)
}
