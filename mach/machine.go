package mach

import (
	"slices"

	"tabula/api"
	"tabula/letters"
	"tabula/plain"
)

// machine is one run: how many steps are done, how many calls are under way, what was read.
type machine struct {
	code  api.Code
	frame api.Frame
	steps int
	calls int
	areas []api.Area
}

// ended is what a run panics with that has done all its steps.
type ended struct{}

func (m *machine) run() (v api.Val) {
	defer func() {
		switch r := recover().(type) {
		case nil:
		case ended:
			v = plain.Fault(api.VNum)
		default:
			panic(r)
		}
	}()
	return m.block(0, nil)
}

// block does a block that begins with some names kept, and is what it leaves.
func (m *machine) block(number int, names []kept) api.Val {
	c := call{machine: m, names: names}
	block := m.code.Blocks[number]
	for at := 0; at < len(block); at++ {
		if m.steps == api.MaxSteps {
			panic(ended{})
		}
		m.steps++
		at += c.do(block[at])
	}
	return c.stack.take()
}

// read is what is shown from one reference to another one.
func (m *machine) read(from api.Ref, to api.Ref) api.Val {
	sheet := m.sheet(from.Sheet)
	if sheet < 0 || from.Bad || to.Bad {
		return plain.Fault(api.VRef)
	}
	a := api.Area{Sheet: sheet, Row: min(from.Row, to.Row), Col: min(from.Col, to.Col)}
	a.Rows = max(from.Row, to.Row) - a.Row + 1
	a.Cols = max(from.Col, to.Col) - a.Col + 1
	if !slices.Contains(m.areas, a) {
		m.areas = append(m.areas, a)
	}
	cells := a.Rows * a.Cols
	if cells == 1 {
		return m.shown(api.At{Sheet: sheet, Row: a.Row, Col: a.Col})
	}
	if cells > api.MaxArray {
		return plain.Fault(api.VNum)
	}
	list := make([]api.Val, 0, cells)
	for i := range cells {
		list = append(list, m.shown(api.At{Sheet: sheet, Row: a.Row + i/a.Cols, Col: a.Col + i%a.Cols}))
	}
	return api.Val{Kind: api.Array, Rows: a.Rows, Cols: a.Cols, L: list}
}

// sheet is the number of the sheet of a name, the formula's own one of none; below 0, if there is none.
func (m *machine) sheet(name string) int {
	if name == "" {
		return m.frame.Sheet
	}
	return slices.IndexFunc(m.frame.Sheets, func(s string) bool { return letters.Alike(s, name) })
}

func (m *machine) shown(at api.At) api.Val {
	i, found := slices.BinarySearchFunc(m.frame.Vals, at, func(s api.Shown, at api.At) int { return order(s.At, at) })
	if !found {
		return api.Val{}
	}
	return m.frame.Vals[i].V
}
