package shift_test

import (
	"math"
	"strings"
	"testing"

	"tabula/api"
	"tabula/shift"
	"tabula/tree"
)

func rights() []api.Shift {
	most := strings.Repeat("x", 30)
	return []api.Shift{
		rowsIn(0, 1), rowsIn(0, 200), rowsIn(199, 1), rowsIn(7, 193), rowsOut(0, 1), rowsOut(0, 200), rowsOut(199, 1), colsIn(0, 1), colsIn(0, 52), colsIn(51, 1), colsIn(7, 45), colsOut(0, 52), colsOut(51, 1),
		rename("S", "T"), rename("S", "S"), rename("It's", "a!b"), rename(most, most), gone("S"), gone("Two x"), gone("é"), {Kind: api.ShRowsIn, Sheet: "'", N: 1},
	}
}

func wrongs() []api.Shift {
	list := []api.Shift{{}, {Sheet: "S"}, {Kind: -1, Sheet: "S", N: 1}, {Kind: 7, Sheet: "S", N: 1}, {Kind: math.MaxInt, Sheet: "S"}, {Kind: math.MinInt, Sheet: "S"}}
	for _, s := range []string{"", strings.Repeat("x", 31), "\xff", "\n", "\x7f", strings.Repeat("é", 16)} {
		list = append(list, api.Shift{Kind: api.ShRowsIn, Sheet: s, N: 1}, api.Shift{Kind: api.ShColsOut, Sheet: s, N: 1}, rename(s, "T"), rename("S", s), gone(s))
	}
	for _, n := range []int{0, -1, 201, math.MinInt, math.MaxInt} {
		list = append(list, rowsIn(0, n), rowsOut(0, n), colsIn(0, n), colsOut(0, n), rowsIn(199, n), rowsOut(1, n), colsIn(51, n))
	}
	for _, n := range []int{-1, 200, math.MinInt, math.MaxInt} {
		list = append(list, rowsIn(n, 1), rowsOut(n, 1), colsIn(n, 1), colsOut(n, 1), rowsIn(n, math.MaxInt), rowsIn(n, math.MinInt))
	}
	list = append(list, rowsIn(199, 2), rowsOut(1, 200), colsIn(51, 2), colsOut(0, 53), colsIn(52, 1), colsOut(1, 52), colsIn(0, 200))
	for _, s := range []api.Shift{rowsIn(0, 1), rowsOut(0, 1), colsIn(0, 1), colsOut(0, 1), gone("S")} {
		s.Name = "T"
		list = append(list, s)
	}
	for _, s := range []api.Shift{rename("S", "T"), gone("S")} {
		s.At = 1
		list = append(list, s)
		s.At, s.N = 0, 1
		list = append(list, s)
		s.N = -1
		list = append(list, s)
	}
	return list
}

// P17.1: edits that are right.
func TestRight(t *testing.T) {
	for _, s := range rights() {
		if !shift.Right(s) {
			t.Errorf("Right(%+v) is false", s)
		}
	}
	for _, s := range wrongs() {
		if shift.Right(s) {
			t.Errorf("Right(%+v) is true", s)
		}
	}
}

// P17.1: the errors of trees and of edits, in their order.
func TestNodeWrong(t *testing.T) {
	for _, s := range wrongs() {
		if n, err := shift.Node(read(t, "A1"), "S", s); !tree.Same(n, api.Node{}) || err != api.ErrShift {
			t.Errorf("Node by %+v: %s, error %d", s, print(n), err)
		}
		if n, err := shift.Node(api.Node{Kind: api.NName}, "S", s); !tree.Same(n, api.Node{}) || err != api.ErrTree {
			t.Errorf("Node of none by %+v: %s, error %d", s, print(n), err)
		}
		for _, input := range []string{"=A1", "=1+", "x", ""} {
			if got, err := shift.Input(input, "S", s); got != "" || err != api.ErrShift {
				t.Errorf("Input of %s by %+v: %s, error %d", input, s, got, err)
			}
		}
	}
	for _, n := range []api.Node{{}, {Kind: api.NRef, Ref: api.Ref{Row: 200}}, {Kind: api.NOp, S: "+"}, {Kind: api.NRange, To: api.Ref{Bad: true}}} {
		if got, err := shift.Node(n, "S", rowsIn(0, 1)); !tree.Same(got, api.Node{}) || err != api.ErrTree {
			t.Errorf("Node of a wrong tree: %s, error %d", print(got), err)
		}
	}
}

// P17.1: how references and ranges go along, in formulas of the sheet S.
func TestNode(t *testing.T) {
	for _, c := range []struct {
		s       api.Shift
		formula string
		want    string
	}{
		{rowsIn(2, 3), "A2+A3+SUM(A1:A4)", "A2+A6+SUM(A1:A7)"},
		{rowsOut(1, 2), "A2+SUM(A2:A5)", "#REF!+SUM(A2:A3)"},
		{rowsIn(2, 3), "$A$3:B9+T!A3+s!$B3+S!A2:A3+T!A1:A9", "$A$6:B12+T!A3+s!$B6+S!A2:A6+T!A1:A9"},
		{rowsIn(2, 1), "A199+A200+B199:B200+B200:B200+B1:B200", "A200+#REF!+B200:B200+#REF!+B1:B200"},
		{rowsIn(0, 200), "A1+A1:A200", "#REF!+#REF!"},
		{rowsIn(199, 1), "A199+A200+A199:A200+A200:A200", "A199+#REF!+A199:A200+#REF!"},
		{rowsIn(3, 2), "A200:A3+A2:A3+A4:A4", "A200:A3+A2:A3+A6:A6"},
		{rowsOut(1, 3), "A1+A2+A4+A5", "A1+#REF!+#REF!+A2"},
		{rowsOut(1, 3), "A1:A2+A2:A4+A4:A5+A3:A9+A1:A9+A5:A9", "A1:A1+#REF!+A2:A2+A2:A6+A1:A6+A2:A6"},
		{rowsOut(1, 3), "A2:A1+A9:$A$3+A4:A2+B$4:C$4", "A1:A1+A6:$A$2+#REF!+#REF!"},
		{rowsOut(0, 200), "A1+A1:A200+T!A1", "#REF!+#REF!+T!A1"},
		{rowsOut(199, 1), "A199:A200+A200", "A199:A199+#REF!"},
		{colsIn(1, 2), "A9+B9+A1:C1+AX1+AY1+AY1:AZ1+A1:AZ1", "A9+D9+A1:E1+AZ1+#REF!+#REF!+A1:AZ1"},
		{colsIn(1, 2), "AX1:AZ1+C2:A$1+T!B1+A200", "AZ1:AZ1+E2:A$1+T!B1+A200"},
		{colsOut(1, 2), "A1+B1+C1+D1+A1:B1+B1:C1+C1:D9+$D1:A$2", "A1+#REF!+#REF!+B1+A1:A1+#REF!+B1:B9+$B1:A$2"},
		{colsOut(0, 52), "A1:A9+#REF!", "#REF!+#REF!"},
		{rename("S", "It's"), "A1+S!A1+s!$A$1:B2+T!A1+#REF!+'S'!B3", "A1+'It''s'!A1+'It''s'!$A$1:B2+T!A1+#REF!+'It''s'!B3"},
		{rename("t", "x1"), "T!A1+S!B1+T!A1:B1", "x1!A1+S!B1+x1!A1:B1"},
		{gone("S"), "A1+A1:B2+S!A1+s!A1:B9+T!A1", "A1+A1:B2+#REF!+#REF!+T!A1"},
		{gone("t"), "A1+T!A1+T!$A$1:B2+#REF!+S!A1", "A1+#REF!+#REF!+#REF!+S!A1"},
		{rowsIn(0, 1), "LET(x,A1,LAMBDA(y,A2+y)(-A3%))+T[a]+x+{1,2}", "LET(x,A2,LAMBDA(y,A3+y)(-A4%))+T[a]+x+{1,2}"},
	} {
		n := read(t, c.formula)
		got, err := shift.Node(n, "S", c.s)
		if print(got) != c.want || err != api.OK || !tree.Right(got) {
			t.Errorf("%s by %+v: %s, error %d; want %s", c.formula, c.s, print(got), err, c.want)
		}
		if !tree.Same(n, read(t, c.formula)) {
			t.Errorf("%s: what was handed in is another one", c.formula)
		}
	}
	for own, want := range map[string]string{"S": "A2", "s": "A2", "": "A1", "T": "A1", "S ": "A1"} {
		if got, err := shift.Node(read(t, "A1"), own, rowsIn(0, 1)); print(got) != want || err != api.OK {
			t.Errorf("A1 of the sheet %q: %s, error %d; want %s", own, print(got), err, want)
		}
	}
}

// P17.1: trees of all sorts, held against the rows and columns that are left, one by one.
func TestNodeMany(t *testing.T) {
	d, torn := dice(1), 0
	for range 30000 {
		n, s, own := read(t, d.formula()), d.shift(), d.one("S", "T", "two x", "")
		got, err := shift.Node(n, own, s)
		want := goneAlong(n, own, s)
		if !tree.Same(got, want) || err != api.OK || !tree.Right(got) {
			t.Fatalf("%s of %s by %+v: %s, error %d; want %s", print(n), own, s, print(got), err, print(want))
		}
		if strings.Contains(print(got), "#REF!") {
			torn++
		}
	}
	if torn < 1000 {
		t.Errorf("only %d trees have a torn reference", torn)
	}
}

// P17.2: inputs, which stay as they were written where nothing is another one.
func TestInput(t *testing.T) {
	long := "=A10+\"" + strings.Repeat("x", 193) + "\""
	for _, c := range []struct {
		s     api.Shift
		input string
		want  string
		err   api.Errno
	}{
		{rowsIn(2, 1), "= a1 + sum( B2 )", "= a1 + sum( B2 )", api.OK}, {rowsIn(0, 1), "= a1 + sum( B2 )", "=A2+SUM(B3)", api.OK}, {rowsOut(0, 1), "=a1", "=#REF!", api.OK}, {rowsIn(0, 1), "=#ref!+1", "=#ref!+1", api.OK},
		{rowsIn(0, 1), "A1", "A1", api.OK}, {rowsIn(0, 1), "'=A1", "'=A1", api.OK}, {rowsIn(0, 1), "", "", api.OK}, {rowsIn(0, 1), "\xff\x00", "\xff\x00", api.OK}, {rowsIn(0, 1), strings.Repeat("x", 300), strings.Repeat("x", 300), api.OK}, {rowsIn(0, 1), " =A1", " =A1", api.OK},
		{rowsIn(0, 1), "=", "", api.ErrTree}, {rowsIn(0, 1), "=1+", "", api.ErrTree}, {rowsIn(0, 1), "==A1", "", api.ErrTree}, {rowsIn(0, 1), "=\xff", "", api.ErrTree}, {rowsIn(0, 1), "=" + strings.Repeat("x", 300), "", api.ErrTree},
		{rowsIn(0, 1), long, "=A11" + long[4:], api.OK}, {rowsIn(0, 90), long, "", api.ErrShift}, {rowsIn(0, 89), long, "=A99" + long[4:], api.OK}, {rowsIn(10, 90), long, long, api.OK}, {rowsIn(10, 90), long + " ", long + " ", api.OK}, {rename("S", "T"), "=S!A1+ 1", "=T!A1+1", api.OK}, {rename("s", "S"), "=s!A1+ 1", "=S!A1+1", api.OK}, {rename("S", "S"), "=S!A1+ 1", "=S!A1+ 1", api.OK},
	} {
		if got, err := shift.Input(c.input, "S", c.s); got != c.want || err != c.err {
			t.Errorf("%.40q by %+v: %.40q, error %d; want %.40q, error %d", c.input, c.s, got, err, c.want, c.err)
		}
	}
}
