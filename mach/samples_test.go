package mach_test

import (
	"slices"
	"strconv"
	"strings"
	"testing"

	"tabula/api"
	"tabula/code"
	"tabula/mach"
	"tabula/ref"
	"tabula/tree"
	"tabula/val"
)

func num(m int, e int) api.Val { return api.Val{Kind: api.Num, N: api.Dec{M: m, E: e}} }
func text(s string) api.Val    { return api.Val{Kind: api.Text, S: s} }
func truth(b bool) api.Val     { return api.Val{Kind: api.Truth, B: b} }
func fault(n int) api.Val      { return api.Val{Kind: api.Fault, Err: n} }

func array(rows int, cols int, l ...api.Val) api.Val {
	return api.Val{Kind: api.Array, Rows: rows, Cols: cols, L: l}
}

// sheets are those of all frames here.
func sheets() []string {
	return []string{"Main", "Two x", "TWO X", "Third"}
}

// shown are cells by their places, as `A1`, or `Third!A1`, with what is put in.
func shown(t *testing.T, cells string) []api.Shown {
	t.Helper()
	var list []api.Shown
	for _, part := range strings.Split(cells, "|") {
		place, input, found := strings.Cut(part, ":")
		if !found {
			continue
		}
		r, _ := ref.Read(place)
		v, err := val.Read(input)
		if err != api.OK {
			t.Fatalf("Read(%q): error %d", input, err)
		}
		at := api.At{Sheet: max(slices.Index(sheets(), r.Sheet), 0), Row: r.Row, Col: r.Col}
		list = append(list, api.Shown{At: at, V: v})
	}
	slices.SortFunc(list, func(a, b api.Shown) int {
		return (a.At.Sheet-b.At.Sheet)*100000 + (a.At.Row-b.At.Row)*100 + a.At.Col - b.At.Col
	})
	return list
}

func frame(t *testing.T, cells string) api.Frame {
	t.Helper()
	return api.Frame{Sheets: sheets(), Vals: shown(t, cells), Now: api.Dec{M: 45}}
}

func compiled(t *testing.T, formula string) api.Code {
	t.Helper()
	n, at, err := tree.Read(formula)
	if err != api.OK {
		t.Fatalf("Read(%q): error %d at %d", formula, err, at)
	}
	c, err := code.Compile(n)
	if err != api.OK {
		t.Fatalf("Compile of %s: error %d", formula, err)
	}
	return c
}

// told is a value as a text; functions are told with what they hold.
func told(v api.Val) string {
	if v.Kind == api.Func {
		var parts []string
		for _, x := range v.L {
			parts = append(parts, told(x))
		}
		return "func " + strconv.Itoa(v.Fn) + " " + v.S + " [" + strings.Join(parts, " ") + "]"
	}
	s, err := val.Text(v)
	if err != api.OK {
		return "not right"
	}
	return s
}

// places are areas as texts.
func places(l []api.Area) string {
	var parts []string
	for _, a := range l {
		from, _ := ref.Text(api.Ref{Row: a.Row, Col: a.Col})
		to, _ := ref.Text(api.Ref{Row: a.Row + a.Rows - 1, Col: a.Col + a.Cols - 1})
		s := strconv.Itoa(a.Sheet) + "!" + from
		if from != to {
			s += ":" + to
		}
		parts = append(parts, s)
	}
	return strings.Join(parts, " ")
}

// checks are formulas, with what comes of them, and what is read, one a line.
func checks(t *testing.T, f api.Frame, lines string) {
	t.Helper()
	for _, line := range strings.Split(strings.TrimSpace(lines), "\n") {
		line = strings.TrimSpace(line)
		formula, rest, found := strings.Cut(line, " => ")
		if !found {
			formula, rest = strings.TrimSuffix(line, " =>"), ""
		}
		want, reads, _ := strings.Cut(rest, " @ ")
		v, areas, err := mach.Run(compiled(t, formula), f)
		if err != api.OK || told(v) != want || places(areas) != reads {
			t.Errorf("%s: %s, error %d, read %q; want %s, read %q", formula, told(v), err, places(areas), want, reads)
		}
	}
}

// dice are numbers that look like chance, and are the same in each run.
type dice uint64

func (d *dice) below(n int) int {
	*d = *d*6364136223846793005 + 1442695040888963407
	return int(uint64(*d)>>33) % n
}
