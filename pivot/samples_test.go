package pivot_test

import (
	"strings"
	"testing"

	"tabula/api"
	"tabula/val"
)

// one is a value told as what may be put in.
func one(t *testing.T, s string) api.Val {
	t.Helper()
	v, err := val.Read(s)
	if err != api.OK {
		t.Fatalf("%q: error %d", s, err)
	}
	return v
}

// table is one told as rows with `;` between, and values with `,` between.
func table(t *testing.T, s string) api.Val {
	t.Helper()
	var list []api.Val
	rows := strings.Split(s, ";")
	for _, row := range rows {
		for _, input := range strings.Split(row, ",") {
			list = append(list, one(t, input))
		}
	}
	v, err := val.Make(len(rows), len(list)/len(rows), list)
	if err != api.OK {
		t.Fatalf("%q: error %d", s, err)
	}
	return v
}

// written is a value as table has it, an error as it is written.
func written(v api.Val) string {
	if v.Kind != api.Array {
		s, _ := val.Text(v)
		return s
	}
	var text strings.Builder
	for i, x := range v.L {
		s, _ := val.Text(x)
		switch {
		case i%v.Cols > 0:
			text.WriteString("," + s)
		case i > 0:
			text.WriteString(";" + s)
		default:
			text.WriteString(s)
		}
	}
	return text.String()
}

// tables are values that are no tables.
func noTables() []api.Val {
	n := api.Val{Kind: api.Num, N: api.Dec{M: 1}}
	return []api.Val{
		{}, n, {Kind: api.Text, S: "x"}, {Kind: api.Fault, Err: 3}, {Kind: api.Array}, {Kind: api.Array, Rows: 2, Cols: 1, L: []api.Val{n}},
		{Kind: api.Array, Rows: 1, Cols: 1, L: []api.Val{{Kind: api.Num, N: api.Dec{M: 10}}}}, {Kind: api.Array, Rows: -1, Cols: -1, L: []api.Val{n}},
		{Kind: api.Func, Code: api.Code{Blocks: [][]api.Ins{nil}, Params: []string{""}}}, {Rows: 2, Cols: 3, L: []api.Val{n, n, n, n, n, n}},
	}
}

// dice are numbers that look like chance, and are the same in each run.
type dice uint64

func (d *dice) below(n int) int {
	*d = *d*6364136223846793005 + 1442695040888963407
	return int(uint64(*d)>>33) % n
}

func (d *dice) value() string {
	list := []string{"a", "A", "b", "", "", "1", "2", "1.5", "-3", "0", "TRUE", "FALSE", "#N/A", "#DIV/0!", "x", "'1", "999999999999999000000000"}
	return list[d.below(len(list))]
}

// table has some rows and columns; its numbers are whole, and no errors are in it, if it is plain.
func (d *dice) table(isPlain bool) string {
	rows, cols := 1+d.below(9), 1+d.below(4)
	var lines []string
	for range rows {
		var line []string
		for range cols {
			s := d.value()
			if isPlain {
				s = []string{"a", "A", "b", "1", "2", "30", "", "TRUE"}[d.below(8)]
			}
			line = append(line, s)
		}
		lines = append(lines, strings.Join(line, ","))
	}
	return strings.Join(lines, ";")
}
