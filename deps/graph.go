package deps

import (
	"strings"

	"tabula/api"
	"tabula/bare"
	"tabula/index"
	"tabula/places"
	"tabula/ref"
)

// formula is a cell that has one.
type formula struct {
	at    api.At
	input string
}

// graph knows which formulas there are: their numbers by their places, and their places in an index; and the spills of formulas.
type graph struct {
	book     api.Book
	formulas []formula
	numbers  map[api.At]int
	cells    *index.Index
	spills   []api.Spill
}

func newGraph(b api.Book, l []api.Spill) *graph {
	g := &graph{book: b, numbers: map[api.At]int{}, cells: index.New()}
	lay := g.cells.Put
	for i, sheet := range b.Sheets {
		for _, c := range sheet.Cells {
			if !strings.HasPrefix(c.Input, "=") {
				continue
			}
			at := api.At{Sheet: i, Row: c.Row, Col: c.Col}
			lay(len(g.formulas), places.OfCell(at))
			g.numbers[at] = len(g.formulas)
			g.formulas = append(g.formulas, formula{at, c.Input})
		}
	}
	for _, s := range l {
		if _, found := g.numbers[s.At]; found {
			g.spills = append(g.spills, s)
		}
	}
	return g
}

func (g *graph) places() []api.At {
	var list []api.At
	for _, f := range g.formulas {
		list = append(list, f.at)
	}
	return list
}

// read are the numbers of the formulas that one may read; none, if it can't be expanded. No other cell makes a difference to that.
func (g *graph) read(f formula) []int {
	areas, _ := Reads(bare.Cell(g.book, f.at, f.input), f.at)
	may := make([]bool, len(g.formulas))
	for _, a := range areas {
		for _, i := range g.cells.Meets(a) {
			may[i] = true
		}
		for _, s := range g.spills {
			if _, meets := ref.Meet(places.OfSpill(s), a); meets {
				may[g.numbers[s.At]] = true
			}
		}
	}
	var list []int
	for i, is := range may {
		if is {
			list = append(list, i)
		}
	}
	return list
}
