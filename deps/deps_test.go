package deps_test

import (
	"math"
	"slices"
	"strconv"
	"strings"
	"testing"

	"tabula/api"
	"tabula/book"
	"tabula/deps"
	"tabula/names"
	"tabula/ref"
	"tabula/tree"
)

// sheets is a workbook of three sheets, with names and a table, and cells told as `A1: input`, or `T!A1: input`.
func sheets(t *testing.T, cells ...string) api.Book {
	t.Helper()
	b := api.Book{
		Sheets: []api.Sheet{{Name: "S"}, {Name: "T"}, {Name: "Two x"}},
		Names:  []api.Name{{Name: "rate", Sheet: -1, Input: "=T!B2*2"}, {Name: "here", Sheet: 1, Input: "=A1:A3"}, {Name: "much", Sheet: -1, Input: "=" + strings.Repeat("-", 18) + "rate"}},
		Tables: []api.Table{{Name: "Tab", Sheet: 2, Row: 1, Col: 3, Rows: 2, Cols: []string{"a", "b"}}},
	}
	for _, s := range cells {
		place, input, _ := strings.Cut(s, ": ")
		r, _ := ref.Read(place)
		sheet, _ := book.Sheet(b, r.Sheet)
		set, err := book.Set(b, api.At{Sheet: sheet, Row: r.Row, Col: r.Col}, input)
		if err != api.OK {
			t.Fatalf("%s: error %d", s, err)
		}
		b = set
	}
	return b
}

func read(t *testing.T, formula string) api.Node {
	t.Helper()
	n, _, err := tree.Read(formula)
	if err != api.OK {
		t.Fatalf("%s: error %d", formula, err)
	}
	return n
}

// area is one told as `0 A1:B2`, by its sheet's number.
func area(s string) api.Area {
	sheet, span, _ := strings.Cut(s, " ")
	from, to, found := strings.Cut(span, ":")
	if !found {
		to = from
	}
	i, _ := strconv.Atoi(sheet)
	a, _ := ref.Read(from)
	b, _ := ref.Read(to)
	whole, _ := ref.Area(a, b, i)
	return whole
}

func areas(s string) []api.Area {
	var list []api.Area
	for _, part := range strings.Split(s, ",") {
		if part != "" {
			list = append(list, area(part))
		}
	}
	return list
}

// P12.1: a tree's areas, as they stand in it, and what has none.
func TestAreas(t *testing.T) {
	for _, c := range []struct {
		formula string
		sheet   int
		want    string
	}{
		{"1+2", 0, ""}, {"A1", 0, "0 A1"}, {"$B$3", 2, "2 B3"}, {"B2:A1", 1, "1 A1:B2"}, {"AZ200:A1", 1, "1 A1:AZ200"}, {"A1:A1", 0, "0 A1"},
		{"B1+SUM(C1:C2)*A1", 0, "0 B1,0 C1:C2,0 A1"}, {"A1+A1", 0, "0 A1,0 A1"}, {"F(A1,G(B2,C3),-D4%)", 0, "0 A1,0 B2,0 C3,0 D4"},
		{"T!A1&s!B2&'two X'!C3:D4&E5", 0, "1 A1,0 B2,2 C3:D4,0 E5"}, {"T!A1&s!B2&'two X'!C3:D4&E5", 1, "1 A1,0 B2,2 C3:D4,1 E5"},
		{"Gone!A1+#REF!+Gone!A1:B2+A2", 0, "0 A2"}, {"LET(x,A1,LAMBDA(y,B2+y)(C3))", 0, "0 A1,0 B2,0 C3"}, {"(A1:A2)(B1)", 0, "0 A1:A2,0 B1"},
		{"rate+Tab[a]+here", 0, ""}, {"{1,2}", 0, ""}, {"F()", 0, ""},
	} {
		got, err := deps.Areas(read(t, c.formula), sheets(t), c.sheet)
		if !slices.Equal(got, areas(c.want)) || err != api.OK {
			t.Errorf("Areas of %s on %d: %v, error %d; want %s", c.formula, c.sheet, got, err, c.want)
		}
	}
	wrong := sheets(t)
	wrong.Names[0].Name = ""
	for i, c := range []struct {
		n     api.Node
		b     api.Book
		sheet int
		err   api.Errno
	}{
		{api.Node{}, wrong, -1, api.ErrName}, {read(t, "A1"), api.Book{}, 0, api.ErrLimit},
		{api.Node{}, sheets(t), -1, api.ErrTree}, {api.Node{Kind: api.NRef, Ref: api.Ref{Row: 200}}, sheets(t), 0, api.ErrTree}, {api.Node{Kind: api.NOp, S: "+"}, sheets(t), 3, api.ErrTree},
		{read(t, "A1"), sheets(t), -1, api.ErrArg}, {read(t, "A1"), sheets(t), 3, api.ErrArg}, {read(t, "1"), sheets(t), 8, api.ErrArg}, {read(t, "A1"), sheets(t), math.MinInt, api.ErrArg}, {read(t, "A1"), sheets(t), math.MaxInt, api.ErrArg},
	} {
		if l, err := deps.Areas(c.n, c.b, c.sheet); len(l) > 0 || err != c.err {
			t.Errorf("Areas, case %d: %v, error %d; want %d", i, l, err, c.err)
		}
	}
}

// P12.2: what a cell's formula reads, names and tables too.
func TestReads(t *testing.T) {
	b := sheets(t, "A1: =B1+rate+T!A2", "A2: 7", "A3: 'x", "T!A1: =here+SUM(Tab[b])", "T!A2: =other+HERE(A9)", "'Two x'!A1: =Tab[b]&here", "'Two x'!A2: =-much", "'Two x'!A3: =#REF!")
	for _, c := range []struct {
		at   api.At
		want string
		err  api.Errno
	}{
		{api.At{}, "0 B1,1 B2,1 A2", api.OK}, {api.At{Row: 1}, "", api.OK}, {api.At{Row: 2}, "", api.OK}, {api.At{Row: 9}, "", api.OK},
		{api.At{Sheet: 1}, "1 A1:A3,2 E3:E4", api.OK}, {api.At{Sheet: 1, Row: 1}, "1 A1:A3,1 A9", api.OK},
		{api.At{Sheet: 2}, "2 E3:E4", api.OK}, {api.At{Sheet: 2, Row: 1}, "", api.ErrDeep}, {api.At{Sheet: 2, Row: 2}, "", api.OK},
		{api.At{Sheet: 3}, "", api.ErrArg}, {api.At{Sheet: -1}, "", api.ErrArg}, {api.At{Row: 200}, "", api.ErrArg}, {api.At{Col: 52}, "", api.ErrArg}, {api.At{Row: math.MinInt}, "", api.ErrArg}, {api.At{Sheet: math.MaxInt}, "", api.ErrArg},
	} {
		got, err := deps.Reads(b, c.at)
		if !slices.Equal(got, areas(c.want)) || err != c.err {
			t.Errorf("Reads of %+v: %v, error %d; want %s, error %d", c.at, got, err, c.want, c.err)
		}
	}
	b.Rules = make([]api.Rule, 1)
	if l, err := deps.Reads(b, api.At{Row: -1}); len(l) > 0 || err != api.ErrRule {
		t.Errorf("Reads of a wrong workbook: %v, error %d", l, err)
	}
}

func places(s string) []api.At {
	var list []api.At
	for _, a := range areas(s) {
		list = append(list, api.At{Sheet: a.Sheet, Row: a.Row, Col: a.Col})
	}
	return list
}

func sameEdges(a [][]int, b [][]int) bool {
	return slices.EqualFunc(a, b, func(x, y []int) bool { return slices.Equal(x, y) })
}

// P12.3: the graph of some workbooks, with spills and without.
func TestGraph(t *testing.T) {
	at := func(s string) api.At { return places(s)[0] }
	for i, c := range []struct {
		cells  []string
		spills []api.Spill
		places string
		edges  [][]int
	}{
		{nil, nil, "", nil},
		{[]string{"A1: 5", "B1: '=A1"}, nil, "", nil},
		{[]string{"A1: =B1+SUM(C1:C2)", "B1: =1", "C2: =A1"}, nil, "0 A1,0 B1,0 C2", [][]int{{1, 2}, nil, {0}}},
		{[]string{"A1: =A1", "A2: =A1:A3+A1", "A3: 5"}, nil, "0 A1,0 A2", [][]int{{0}, {0, 1}}},
		{[]string{"'Two x'!A1: =S!B2+T!A1", "B2: ='two x'!A1", "A9: =B2", "T!A1: =Gone!A1+#REF!"}, nil, "0 B2,0 A9,1 A1,2 A1", [][]int{{3}, {0}, nil, {0, 2}}},
		{[]string{"A1: =rate", "T!B2: =1", "'Two x'!D3: =SUM(Tab[a])", "'Two x'!D4: =Tab[b]", "'Two x'!E4: =1"}, nil, "0 A1,1 B2,2 D3,2 D4,2 E4", [][]int{{1}, nil, {2, 3}, {4}, nil}},
		{[]string{"A1: =-much", "T!B2: =much"}, nil, "0 A1,1 B2", [][]int{nil, {1}}},
		{[]string{"A1: ={1;2}", "B1: =A2", "C1: =A3"}, []api.Spill{{At: at("0 A1"), Rows: 2, Cols: 1}}, "0 A1,0 B1,0 C1", [][]int{nil, {0}, nil}},
		{[]string{"A1: ={1;2}", "B1: =A2", "C1: =A3"}, []api.Spill{{At: at("0 A1"), Rows: 3, Cols: 1}, {At: at("0 C1"), Rows: 1, Cols: 9}, {At: at("0 A1"), Rows: 1, Cols: 1}}, "0 A1,0 B1,0 C1", [][]int{nil, {0}, {0}}},
		{[]string{"A1: ={1;2}", "B1: =A2+D1", "C1: =T!A2"}, []api.Spill{{At: at("0 D1"), Rows: 3, Cols: 1}, {At: at("0 B1"), Rows: 1, Cols: 3}, {At: at("2 A1"), Rows: 9, Cols: 9}, {At: api.At{Sheet: 7, Row: 199, Col: 51}, Rows: 1, Cols: 1}}, "0 A1,0 B1,0 C1", [][]int{nil, {1}, nil}},
	} {
		b := sheets(t, c.cells...)
		got, edges, err := deps.Graph(b, c.spills)
		if !slices.Equal(got, places(c.places)) || !sameEdges(edges, c.edges) || err != api.OK {
			t.Errorf("graph %d: %v, %v, error %d; want %s, %v", i, got, edges, err, c.places, c.edges)
		}
	}
}

// P12.3: what is wrong, and what goes ahead.
func TestGraphWrong(t *testing.T) {
	b, wrong := sheets(t, "A1: =A1"), sheets(t)
	wrong.Tables[0].Rows = 0
	for _, s := range []api.Spill{{}, {Rows: 1}, {Cols: 1}, {Rows: 201, Cols: 1}, {Rows: 1, Cols: 53}, {At: api.At{Row: 199}, Rows: 2, Cols: 1}, {At: api.At{Col: 51}, Rows: 1, Cols: 2}, {At: api.At{Sheet: 8}, Rows: 1, Cols: 1}, {At: api.At{Sheet: -1}, Rows: 1, Cols: 1}, {At: api.At{Row: -1}, Rows: 2, Cols: 1}, {Rows: math.MaxInt, Cols: 1}, {At: api.At{Col: math.MaxInt}, Rows: 1, Cols: 1}, {Rows: math.MinInt, Cols: math.MinInt}} {
		for _, l := range [][]api.Spill{{s}, {{Rows: 1, Cols: 1}, s}, {s, {Rows: 1, Cols: 1}}} {
			if at, edges, err := deps.Graph(b, l); len(at) > 0 || len(edges) > 0 || err != api.ErrDeps {
				t.Errorf("Graph of %v: %v, %v, error %d", l, at, edges, err)
			}
			if at, edges, err := deps.Graph(wrong, l); len(at) > 0 || len(edges) > 0 || err != api.ErrTable {
				t.Errorf("Graph of a wrong workbook: %v, %v, error %d", at, edges, err)
			}
		}
	}
	if at, edges, err := deps.Graph(b, []api.Spill{{At: api.At{Sheet: 7}, Rows: 200, Cols: 52}}); !slices.Equal(at, []api.At{{}}) || !sameEdges(edges, [][]int{{0}}) || err != api.OK {
		t.Errorf("Graph with a spill of a sheet that is none: %v, %v, error %d", at, edges, err)
	}
}

// dice are numbers that look like chance, and are the same in each run.
type dice uint64

func (d *dice) below(n int) int {
	*d = *d*6364136223846793005 + 1442695040888963407
	return int(uint64(*d)>>33) % n
}

func (d *dice) cell() string {
	return []string{"", "", "S!", "T!", "'Two x'!"}[d.below(5)] + d.bare()
}

func (d *dice) bare() string {
	return string(rune('A'+d.below(4))) + strconv.Itoa(1+d.below(4))
}

func (d *dice) formula() string {
	return []string{d.cell(), d.cell() + ":" + d.bare(), "SUM(" + d.cell() + ")+" + d.cell(), "rate", "SUM(Tab[a])+" + d.cell(), "1", "-much", "{1,2;3,4}"}[d.below(8)]
}

// told is what P12.3 says, each formula held against each.
func told(b api.Book, l []api.Spill) ([]api.At, [][]int) {
	var list []api.At
	all, _ := book.Cells(b)
	for _, at := range all {
		if s, _ := book.Get(b, at); s[0] == '=' {
			list = append(list, at)
		}
	}
	var edges [][]int
	for _, at := range list {
		n, _, _ := names.Formula(b, at)
		reads, _ := deps.Areas(n, b, at.Sheet)
		var may []int
		for i, other := range list {
			is := slices.ContainsFunc(reads, func(a api.Area) bool {
				hit := ref.Has(a, other)
				for _, s := range l {
					_, meets := ref.Meet(a, api.Area{Sheet: s.At.Sheet, Row: s.At.Row, Col: s.At.Col, Rows: s.Rows, Cols: s.Cols})
					hit = hit || s.At == other && meets
				}
				return hit
			})
			if is {
				may = append(may, i)
			}
		}
		edges = append(edges, may)
	}
	return list, edges
}

// P12.3, P12.4: graphs held against what the chapter says, and what follows.
func TestWhatFollows(t *testing.T) {
	d := dice(4)
	for range 300 {
		b := sheets(t)
		for range d.below(14) {
			input := "=" + d.formula()
			if d.below(6) == 0 {
				input = "5"
			}
			b, _ = book.Set(b, api.At{Sheet: d.below(3), Row: d.below(4), Col: d.below(4)}, input)
		}
		var spills []api.Spill
		for range d.below(4) {
			spills = append(spills, api.Spill{At: api.At{Sheet: d.below(3), Row: d.below(4), Col: d.below(4)}, Rows: 1 + d.below(3), Cols: 1 + d.below(3)})
		}
		before, kept := sheets(t), slices.Clone(spills)
		for i := range b.Sheets {
			before.Sheets[i].Cells = slices.Clone(b.Sheets[i].Cells)
		}
		at, edges, err := deps.Graph(b, spills)
		want, wants := told(b, spills)
		if !slices.Equal(at, want) || !sameEdges(edges, wants) || err != api.OK {
			t.Fatalf("Graph of %v, %v: %v, %v, error %d; want %v, %v", b, spills, at, edges, err, want, wants)
		}
		if !book.Same(b, before) || !slices.Equal(spills, kept) {
			t.Fatal("what was handed in is another one")
		}
		_, fewer, _ := deps.Graph(b, nil)
		for i, l := range fewer {
			for _, j := range l {
				if !slices.Contains(edges[i], j) {
					t.Fatalf("with more spills %d falls out of %v", j, edges[i])
				}
			}
			if reads, _ := deps.Reads(b, at[i]); len(reads) == 0 && len(edges[i]) > 0 {
				t.Fatalf("a formula without areas reads %v", edges[i])
			}
		}
	}
}

// R3: lists of an answer share no memory.
func TestNewMemory(t *testing.T) {
	_, edges, _ := deps.Graph(sheets(t, "A1: =A2", "A2: =A1:A2"), nil)
	_ = append(edges[0], 7)
	_ = append(edges[1][:1], 8)
	if !sameEdges(edges, [][]int{{1}, {0, 8}}) {
		t.Errorf("edges: %v", edges)
	}
}

// P12.3: as many formulas as there may be, each of which reads all.
func TestMany(t *testing.T) {
	b := api.Book{Sheets: []api.Sheet{{Name: "S"}}}
	for i := range 400 {
		b.Sheets[0].Cells = append(b.Sheets[0].Cells, api.Cell{Row: i / 40, Col: i % 40, Input: "=A1:AN10+SUM(A1:AN10)"})
	}
	var spills []api.Spill
	for i := range 400 {
		spills = append(spills, api.Spill{At: api.At{Row: i / 40, Col: i % 40}, Rows: 2, Cols: 2})
	}
	at, edges, err := deps.Graph(b, spills)
	if len(at) != 400 || err != api.OK {
		t.Fatalf("Graph: %d places, error %d", len(at), err)
	}
	for i, l := range edges {
		if len(l) != 400 || l[399] != 399 {
			t.Fatalf("formula %d reads %v", i, l)
		}
	}
}
