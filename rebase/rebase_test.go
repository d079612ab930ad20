package rebase_test

import (
	"math"
	"strings"
	"testing"

	"tabula/api"
	"tabula/book"
	"tabula/op"
	"tabula/rebase"
)

type told struct {
	o    api.Op
	by   api.Op
	want api.Op
	err  api.Errno
}

func check(t *testing.T, call string, b api.Book, ask func(api.Book, api.Op, api.Op) (api.Op, api.Errno), list []told) {
	t.Helper()
	for _, c := range list {
		got, err := ask(b, c.o, c.by)
		if !op.Same(got, c.want) || err != c.err {
			t.Errorf("%s of %+v\nby %+v:\n%+v, error %d; want\n%+v, error %d", call, c.o, c.by, got, err, c.want, c.err)
		}
	}
}

// P19.1: what goes along with rows and columns.
func TestOverLines(t *testing.T) {
	none := api.Op{}
	check(t, "Over", good(), rebase.Over, []told{
		{set(0, 1, 0, "5"), rowsIn(0, 1, 1), set(0, 2, 0, "5"), 0}, {set(0, 1, 0, "=A3"), rowsIn(0, 1, 1), set(0, 2, 0, "=A4"), 0}, {set(0, 1, 0, "x"), rowsOut(0, 0, 3), none, api.ErrNothing},
		{set(0, 1, 0, ""), rowsIn(0, 1, 1), set(0, 2, 0, ""), 0}, {set(0, 1, 0, "= a1"), rowsIn(0, 1, 1), set(0, 2, 0, "= a1"), 0}, {set(1, 1, 0, "=S!A2"), rowsIn(0, 1, 1), set(1, 1, 0, "=S!A3"), 0}, {set(1, 1, 0, "=A2"), rowsOut(0, 1, 1), set(1, 1, 0, "=A2"), 0},
		{set(0, 199, 0, ""), rowsIn(0, 1, 1), none, api.ErrTangled}, {set(0, 0, 51, "x"), colsIn(0, 1, 1), none, api.ErrTangled}, {set(0, 0, 5, "=E1+A1+Tab[a]"), colsOut(0, 4, 1), set(0, 0, 4, "=#REF!+A1+#REF!"), 0}, {set(0, 0, 0, "=A10&\""+strings.Repeat("x", 193)+"\""), rowsIn(0, 1, 99), none, api.ErrTangled},
		{set(2, 3, 4, "x"), colsIn(2, 4, 2), set(2, 3, 6, "x"), 0}, {set(2, 3, 4, "x"), colsOut(2, 4, 2), none, api.ErrNothing}, {set(2, 3, 6, "x"), colsOut(2, 4, 2), set(2, 3, 4, "x"), 0},
		{name(-1, "n", "=S!A3"), rowsIn(0, 1, 2), name(-1, "n", "=S!A5"), 0}, {name(0, "n", "=A3"), rowsOut(0, 2, 1), name(0, "n", "=#REF!"), 0}, {name(1, "RATE", ""), rowsIn(1, 0, 1), name(1, "RATE", ""), 0}, {name(1, "n", "=A3"), rowsIn(0, 0, 1), name(1, "n", "=A3"), 0},
		{table("N", 2, 3, 1, 2, "x", "y"), rowsIn(2, 4, 2), table("N", 2, 3, 1, 4, "x", "y"), 0}, {table("N", 2, 3, 1, 2, "x", "y"), colsOut(2, 1, 1), table("N", 2, 3, 1, 2, "y"), 0}, {table("N", 2, 3, 1, 2, "x", "y"), colsIn(2, 2, 1), none, api.ErrTangled}, {table("N", 2, 3, 1, 2, "x", "y"), rowsOut(2, 3, 1), none, api.ErrNothing}, {table("N", 0, 3, 0, 2, "x"), colsOut(0, 3, 5), table("N", 0, 3, 0, 2, "x"), 0}, {table("N", 0, 10, 4, 2, "x"), colsOut(0, 4, 3), none, api.ErrNothing},
		{rule(0, 3, 3, 4, 1, "=D4>Tab[b]"), rowsIn(0, 3, 1), rule(0, 4, 3, 4, 1, "=D5>Tab[b]"), 0}, {rule(0, 3, 3, 4, 1, "=D4"), rowsOut(0, 2, 9), none, api.ErrNothing}, {rule(0, 3, 3, 4, 1, "=T!A1"), colsOut(0, 3, 1), none, api.ErrNothing},
		{noRule(0), rowsOut(0, 3, 1), noRule(0), 0}, {noRule(1), rowsOut(0, 3, 1), noRule(1), 0}, {noRule(2), rowsOut(0, 3, 1), none, api.ErrNothing}, {noRule(2), rowsOut(0, 0, 3), noRule(1), 0}, {noRule(0), rowsOut(0, 0, 3), none, api.ErrNothing}, {noRule(2), rowsOut(1, 2, 1), noRule(1), 0}, {noRule(1), rowsOut(1, 2, 1), none, api.ErrNothing},
		{noTable("TAB"), rowsOut(0, 4, 1), none, api.ErrNothing}, {noTable("TAB"), rowsOut(0, 5, 1), noTable("TAB"), 0}, {noTable("other"), rowsOut(0, 4, 1), noTable("other"), 0}, {sheetIn("V"), rowsIn(0, 1, 1), sheetIn("V"), 0}, {sheetOut(0), rowsIn(0, 1, 1), sheetOut(0), 0}, {rename(0, "V"), rowsIn(0, 1, 1), rename(0, "V"), 0},
	})
}

// P19.1: lines put in and taken out, beside each other.
func TestOverEdits(t *testing.T) {
	none := api.Op{}
	check(t, "Over", good(), rebase.Over, []told{
		{rowsIn(2, 3, 2), rowsIn(2, 4, 3), rowsIn(2, 3, 2), 0}, {rowsIn(2, 4, 2), rowsIn(2, 4, 3), rowsIn(2, 7, 2), 0}, {rowsIn(2, 5, 2), rowsIn(2, 4, 3), rowsIn(2, 8, 2), 0}, {rowsIn(2, 197, 2), rowsIn(2, 4, 3), none, api.ErrTangled},
		{rowsOut(0, 0, 5), rowsIn(0, 2, 1), none, api.ErrTangled}, {rowsOut(0, 0, 5), rowsOut(0, 1, 2), rowsOut(0, 0, 3), 0}, {rowsOut(2, 3, 2), rowsIn(2, 3, 1), rowsOut(2, 4, 2), 0}, {rowsOut(2, 3, 2), rowsIn(2, 4, 1), none, api.ErrTangled}, {rowsOut(2, 3, 2), rowsIn(2, 5, 1), rowsOut(2, 3, 2), 0},
		{rowsIn(2, 3, 2), rowsOut(2, 0, 3), rowsIn(2, 0, 2), 0}, {rowsIn(2, 3, 2), rowsOut(2, 1, 4), rowsIn(2, 1, 2), 0}, {rowsIn(2, 3, 2), rowsOut(2, 3, 4), rowsIn(2, 3, 2), 0}, {rowsIn(2, 3, 2), rowsOut(2, 4, 4), rowsIn(2, 3, 2), 0},
		{rowsOut(2, 3, 2), rowsOut(2, 3, 2), none, api.ErrNothing}, {rowsOut(2, 3, 2), rowsOut(2, 2, 4), none, api.ErrNothing}, {rowsOut(2, 3, 3), rowsOut(2, 4, 5), rowsOut(2, 3, 1), 0}, {rowsOut(2, 3, 3), rowsOut(2, 1, 3), rowsOut(2, 1, 2), 0}, {rowsOut(2, 3, 3), rowsOut(2, 0, 2), rowsOut(2, 1, 3), 0}, {rowsOut(2, 3, 3), rowsOut(2, 6, 2), rowsOut(2, 3, 3), 0},
		{colsIn(2, 4, 2), colsIn(2, 4, 3), colsIn(2, 7, 2), 0}, {colsOut(2, 3, 2), colsIn(2, 4, 1), none, api.ErrTangled}, {colsOut(2, 3, 3), colsOut(2, 1, 3), colsOut(2, 1, 2), 0}, {colsIn(2, 3, 2), colsOut(2, 1, 4), colsIn(2, 1, 2), 0}, {colsIn(2, 50, 2), colsIn(2, 4, 3), none, api.ErrTangled},
		{colsIn(2, 4, 2), rowsIn(2, 1, 3), colsIn(2, 4, 2), 0}, {rowsOut(2, 4, 2), colsOut(2, 1, 9), rowsOut(2, 4, 2), 0}, {rowsOut(1, 4, 2), rowsOut(2, 1, 9), rowsOut(1, 4, 2), 0}, {colsOut(1, 4, 2), colsOut(2, 1, 9), colsOut(1, 4, 2), 0},
	})
}

// P19.1: what goes along with sheets, and with what is taken away.
func TestOverSheets(t *testing.T) {
	none := api.Op{}
	check(t, "Over", good(), rebase.Over, []told{
		{set(1, 0, 0, "x"), sheetOut(1), none, api.ErrNothing}, {set(2, 0, 0, "='Two x'!A1"), sheetOut(1), set(1, 0, 0, "=#REF!"), 0}, {set(0, 0, 0, "=T!A1"), sheetOut(1), set(0, 0, 0, "=T!A1"), 0},
		{rowsIn(1, 0, 1), sheetOut(1), none, api.ErrNothing}, {colsOut(2, 0, 1), sheetOut(1), colsOut(1, 0, 1), 0}, {sheetOut(1), sheetOut(1), none, api.ErrNothing}, {sheetOut(2), sheetOut(1), sheetOut(1), 0}, {sheetOut(0), sheetOut(1), sheetOut(0), 0}, {rename(1, "V"), sheetOut(1), none, api.ErrNothing}, {rename(2, "V"), sheetOut(1), rename(1, "V"), 0},
		{name(1, "n", "=1"), sheetOut(1), none, api.ErrNothing}, {name(1, "rate", ""), sheetOut(1), none, api.ErrNothing}, {name(2, "n", "=S!A1"), sheetOut(0), name(1, "n", "=#REF!"), 0}, {name(-1, "n", "=S!A1"), sheetOut(0), name(-1, "n", "=#REF!"), 0}, {table("N", 1, 30, 3, 1, "x"), sheetOut(1), none, api.ErrNothing}, {table("N", 2, 3, 3, 1, "x"), sheetOut(1), table("N", 1, 3, 3, 1, "x"), 0}, {rule(1, 3, 3, 1, 1, "=1"), sheetOut(1), none, api.ErrNothing}, {rule(2, 3, 3, 1, 1, "=S!A1"), sheetOut(0), rule(1, 3, 3, 1, 1, "=#REF!"), 0},
		{noRule(0), sheetOut(0), none, api.ErrNothing}, {noRule(1), sheetOut(0), noRule(0), 0}, {noTable("tab"), sheetOut(0), none, api.ErrNothing}, {noTable("other"), sheetOut(0), noTable("other"), 0}, {sheetIn("V"), sheetOut(0), sheetIn("V"), 0},
		{set(1, 0, 0, "=s!A1+A1"), rename(0, "It's"), set(1, 0, 0, "='It''s'!A1+A1"), 0}, {name(-1, "n", "=S!A1"), rename(0, "V"), name(-1, "n", "=V!A1"), 0}, {rule(2, 3, 3, 1, 1, "=S!A1"), rename(0, "V"), rule(2, 3, 3, 1, 1, "=V!A1"), 0}, {rename(1, "V"), rename(0, "v"), none, api.ErrTangled}, {rename(0, "V"), rename(0, "W"), rename(0, "V"), 0}, {sheetIn("V"), rename(0, "v"), none, api.ErrTangled}, {sheetOut(0), rename(0, "v"), sheetOut(0), 0},
		{noRule(1), noRule(1), none, api.ErrNothing}, {noRule(2), noRule(1), noRule(1), 0}, {noRule(0), noRule(1), noRule(0), 0}, {noRule(0), rule(0, 0, 0, 1, 1, "=1"), noRule(0), 0}, {noRule(0), name(1, "RATE", ""), noRule(0), 0}, {name(1, "rate", ""), noRule(0), name(1, "rate", ""), 0},
		{name(1, "rate", ""), name(1, "RATE", ""), none, api.ErrNothing}, {name(-1, "rate", ""), name(1, "RATE", ""), name(-1, "rate", ""), 0}, {name(1, "rate", "=1"), name(1, "RATE", ""), name(1, "rate", "=1"), 0}, {name(1, "rate", ""), name(1, "RATE", "=2"), name(1, "rate", ""), 0}, {name(0, "k", ""), name(1, "rate", ""), name(0, "k", ""), 0},
		{noTable("tab"), noTable("TAB"), none, api.ErrNothing}, {noTable("tab"), noTable("other"), noTable("tab"), 0}, {table("N", 2, 3, 3, 1, "x"), table("M", 2, 4, 3, 1, "x"), none, api.ErrTangled}, {table("N", 2, 3, 3, 1, "x"), name(-1, "n", "=1"), none, api.ErrTangled}, {table("N", 2, 3, 3, 1, "x"), table("M", 2, 5, 3, 1, "x"), table("N", 2, 3, 3, 1, "x"), 0}, {sheetIn("V"), sheetIn("v"), none, api.ErrTangled}, {sheetIn("V"), sheetIn("W"), sheetIn("V"), 0}, {set(0, 0, 0, "1"), set(0, 0, 0, "2"), set(0, 0, 0, "1"), 0},
	})
}

// P19.2: what was made behind an operation, without it.
func TestBack(t *testing.T) {
	none := api.Op{}
	check(t, "Back", good(), rebase.Back, []told{
		{set(0, 2, 0, "=A4"), rowsIn(0, 1, 1), set(0, 1, 0, "=A3"), 0}, {set(0, 1, 0, "x"), rowsIn(0, 1, 1), none, api.ErrNothing}, {set(0, 5, 0, "=A2"), rowsIn(0, 1, 1), none, api.ErrTangled}, {set(0, 5, 0, "=#REF!+A1"), rowsIn(0, 1, 1), set(0, 4, 0, "=#REF!+A1"), 0}, {set(0, 5, 0, "=SUM(A1:A2)"), rowsIn(0, 1, 1), set(0, 4, 0, "=SUM(A1:A1)"), 0}, {set(0, 1, 0, "=A3"), rowsOut(0, 1, 2), set(0, 3, 0, "=A5"), 0}, {set(0, 0, 3, "=C1"), colsOut(0, 1, 1), set(0, 0, 4, "=D1"), 0}, {set(0, 0, 3, ""), colsIn(0, 1, 2), set(0, 0, 1, ""), 0}, {set(2, 199, 3, ""), rowsOut(2, 1, 2), none, api.ErrTangled}, {set(0, 0, 3, "x"), colsOut(0, 5, 1), none, api.ErrTangled},
		{set(1, 0, 0, "=V!A1+A1"), rename(0, "V"), set(1, 0, 0, "=S!A1+A1"), 0}, {set(1, 0, 0, "=s!A1"), rename(0, "V"), set(1, 0, 0, "=s!A1"), 0}, {set(3, 0, 0, "x"), sheetIn("V"), none, api.ErrNothing}, {set(0, 0, 0, "=V!A1"), sheetIn("V"), none, api.ErrTangled}, {set(0, 0, 0, "=T!A1"), sheetIn("V"), set(0, 0, 0, "=T!A1"), 0}, {rule(0, 0, 0, 1, 1, "=V!A1"), sheetIn("V"), none, api.ErrTangled}, {name(-1, "n", "=V!A1"), sheetIn("V"), none, api.ErrTangled}, {name(3, "n", "=1"), sheetIn("V"), none, api.ErrNothing}, {table("N", 3, 0, 0, 1, "x"), sheetIn("V"), none, api.ErrNothing}, {rule(3, 0, 0, 1, 1, "=1"), sheetIn("V"), none, api.ErrNothing}, {sheetOut(3), sheetIn("V"), none, api.ErrNothing}, {rename(3, "W"), sheetIn("V"), none, api.ErrNothing}, {colsIn(3, 0, 1), sheetIn("V"), none, api.ErrNothing}, {rename(2, "W"), sheetIn("V"), rename(2, "W"), 0}, {sheetIn("W"), sheetIn("V"), sheetIn("W"), 0},
		{set(1, 0, 0, "=V!A1"), sheetOut(1), set(2, 0, 0, "=V!A1"), 0}, {set(0, 0, 0, "x"), sheetOut(1), set(0, 0, 0, "x"), 0}, {name(-1, "n", "=T!A1"), sheetOut(0), name(-1, "n", "=T!A1"), 0}, {name(0, "n", "=1"), sheetOut(0), name(1, "n", "=1"), 0}, {table("N", 1, 3, 3, 1, "x"), sheetOut(0), table("N", 2, 3, 3, 1, "x"), 0}, {rule(1, 3, 3, 1, 1, "=1"), sheetOut(1), rule(2, 3, 3, 1, 1, "=1"), 0}, {sheetOut(1), sheetOut(0), sheetOut(2), 0}, {rename(0, "S"), sheetOut(0), none, api.ErrTangled}, {rowsIn(0, 3, 1), sheetOut(1), rowsIn(0, 3, 1), 0}, {noRule(0), sheetOut(0), noRule(1), 0}, {noRule(1), sheetOut(1), noRule(2), 0}, {noTable("other"), sheetOut(0), noTable("other"), 0}, {sheetIn("S"), sheetOut(0), none, api.ErrTangled},
		{noRule(0), rowsOut(0, 0, 3), noRule(1), 0}, {noRule(1), rowsOut(0, 3, 1), noRule(1), 0}, {noRule(1), rowsOut(1, 2, 1), noRule(2), 0}, {noRule(1), rowsIn(0, 0, 1), noRule(1), 0}, {noRule(1), rename(0, "V"), noRule(1), 0}, {noRule(2), sheetIn("V"), noRule(2), 0}, {noRule(0), rowsIn(0, 0, 195), none, api.ErrEdge},
		{noRule(3), rule(0, 0, 0, 1, 1, "=1"), none, api.ErrNothing}, {noRule(2), rule(0, 0, 0, 1, 1, "=1"), noRule(2), 0}, {noRule(1), noRule(1), noRule(2), 0}, {noRule(0), noRule(1), noRule(0), 0}, {noRule(1), noRule(0), noRule(2), 0},
		{name(1, "RATE", ""), name(1, "rate", "=1"), name(1, "RATE", ""), 0}, {name(2, "RATE", ""), name(2, "rate", "=1"), none, api.ErrNothing}, {name(-1, "rate", ""), name(2, "rate", "=1"), name(-1, "rate", ""), 0}, {name(2, "RATE", "=1"), name(2, "rate", "=1"), name(2, "RATE", "=1"), 0}, {name(2, "n", "=1"), name(2, "rate", "=1"), name(2, "n", "=1"), 0},
		{noTable("n"), table("N", 2, 3, 3, 1, "x"), none, api.ErrNothing}, {noTable("tab"), name(0, "tab", "=1"), noTable("tab"), 0}, {name(0, "n", "=1"), table("N", 2, 3, 3, 1, "x"), name(0, "n", "=1"), 0}, {sheetIn("n"), table("N", 2, 3, 3, 1, "x"), sheetIn("n"), 0}, {rename(0, "n"), table("N", 2, 3, 3, 1, "x"), rename(0, "n"), 0}, {noRule(2), table("N", 2, 3, 3, 1, "x"), noRule(2), 0}, {noTable("tab"), table("N", 2, 3, 3, 1, "x"), noTable("tab"), 0}, {noTable("tab"), rowsIn(0, 5, 1), noTable("tab"), 0}, {noTable("tab"), colsOut(0, 5, 1), none, api.ErrTangled}, {noTable("other"), sheetIn("V"), noTable("other"), 0}, {table("N", 2, 3, 3, 1, "x"), table("M", 2, 5, 3, 1, "x"), table("N", 2, 3, 3, 1, "x"), 0}, {table("tab", 2, 3, 3, 1, "x"), noTable("TAB"), none, api.ErrTangled}, {table("N", 2, 3, 3, 2, "x", "y"), colsIn(2, 3, 1), table("N", 2, 3, 3, 2, "y"), 0},
		{rowsIn(0, 4, 2), rowsIn(0, 1, 1), rowsIn(0, 3, 2), 0}, {rowsOut(0, 0, 3), rowsIn(0, 1, 1), rowsOut(0, 0, 2), 0}, {rowsOut(0, 1, 1), rowsIn(0, 1, 1), none, api.ErrNothing}, {rowsOut(0, 0, 2), rowsOut(0, 1, 1), none, api.ErrTangled}, {rowsOut(0, 1, 2), rowsOut(0, 1, 1), rowsOut(0, 2, 2), 0}, {colsIn(2, 1, 2), colsOut(2, 1, 1), colsIn(2, 2, 2), 0}, {set(0, 0, 0, "1"), set(0, 0, 0, "2"), set(0, 0, 0, "1"), 0},
	})
}

// P19.1, P19.2: what is wrong, in its order.
func TestWrong(t *testing.T) {
	none, bad, many := api.Op{}, good(), good()
	bad.Names[0].Name = ""
	for len(many.Rules) < api.MaxRules {
		many.Rules = append(many.Rules, many.Rules[0])
	}
	wrongs := []api.Op{{}, {Kind: 14}, {Kind: math.MinInt}, set(8, 0, 0, ""), set(0, 0, 0, "=1+"), rowsIn(0, 1, 200), rename(0, ""), noRule(-1), noRule(20), table("N", 0, 0, 0, 1), rule(0, 0, 0, 0, 0, "=1"), {Kind: api.OpSet, N: 1}}
	for call, ask := range map[string]func(api.Book, api.Op, api.Op) (api.Op, api.Errno){"Over": rebase.Over, "Back": rebase.Back} {
		for _, o := range wrongs {
			check(t, call, good(), ask, []told{{o, set(0, 0, 0, "1"), none, api.ErrOp}, {set(0, 0, 0, "1"), o, none, api.ErrOp}, {o, noRule(9), none, api.ErrOp}, {noRule(9), o, none, api.ErrOp}})
			check(t, call, bad, ask, []told{{o, set(0, 0, 0, "1"), none, api.ErrName}, {set(0, 0, 0, "1"), o, none, api.ErrName}})
			check(t, call, api.Book{}, ask, []told{{o, o, none, api.ErrLimit}})
		}
		check(t, call, good(), ask, []told{
			{set(3, 0, 0, "1"), noRule(3), none, api.ErrRule}, {noRule(3), set(3, 0, 0, "1"), none, api.ErrArg}, {noTable("x"), set(0, 0, 0, "1"), none, api.ErrTable}, {name(2, "x", ""), set(0, 0, 0, "1"), none, api.ErrName}, {rowsIn(1, 0, 199), noTable("x"), none, api.ErrTable}, {rowsIn(1, 0, 199), set(0, 0, 0, "1"), none, api.ErrEdge}, {sheetIn("s"), set(0, 0, 0, "1"), none, api.ErrSheet}, {rename(0, "t"), set(0, 0, 0, "1"), none, api.ErrShift},
		})
		check(t, call, many, ask, []told{{rule(0, 0, 0, 1, 1, "=1"), set(0, 0, 0, "1"), none, api.ErrLimit}, {set(0, 0, 0, "1"), rule(0, 0, 0, 1, 1, "=1"), none, api.ErrLimit}})
	}
	check(t, "Over", many, rebase.Over, []told{{rule(0, 0, 0, 1, 1, "=1"), noRule(0), none, api.ErrLimit}})
	check(t, "Back", many, rebase.Back, []told{{rule(0, 0, 0, 1, 1, "=1"), noRule(0), none, api.ErrTangled}, {noRule(19), noRule(0), none, api.ErrRule}})
	// What could be done on the workbook that it was not made on is no matter.
	check(t, "Back", good(), rebase.Back, []told{{set(3, 0, 0, "x"), sheetIn("V"), none, api.ErrNothing}, {set(3, 0, 0, "x"), sheetOut(0), none, api.ErrArg}})
	check(t, "Over", good(), rebase.Over, []told{{set(3, 0, 0, "x"), sheetIn("V"), none, api.ErrArg}})
}

// P19.1, P19.2: held against the chapter's words, and P19.3: what follows of them.
func TestMany(t *testing.T) {
	d, tells := dice(1), map[api.Errno]int{}
	for range 4000 {
		b, o, by := d.book(), d.op(), d.op()
		got, err := rebase.Over(b, o, by)
		if want, wrong := over(b, o, by); !op.Same(got, want) || err != wrong {
			t.Fatalf("Over of %+v\nby %+v:\n%+v, error %d; want\n%+v, error %d", o, by, got, err, want, wrong)
		}
		tells[err]++
		if err == api.OK {
			follows(t, b, o, by, got)
		}
		got, err = rebase.Back(b, o, by)
		if want, wrong := back(b, o, by); !op.Same(got, want) || err != wrong {
			t.Fatalf("Back of %+v\nby %+v:\n%+v, error %d; want\n%+v, error %d", o, by, got, err, want, wrong)
		}
		tells[err]++
		if err == api.OK {
			if _, wrong := op.Apply(b, got); wrong != api.OK {
				t.Fatalf("Back of %+v by %+v can't be done: error %d", o, by, wrong)
			}
		}
	}
	if tells[api.OK] < 2000 || tells[api.ErrTangled] < 50 || tells[api.ErrNothing] < 50 {
		t.Errorf("told: %v", tells)
	}
}

// follows checks P19.3 of what Over told.
func follows(t *testing.T, b api.Book, o api.Op, by api.Op, told api.Op) {
	t.Helper()
	behind, _ := op.Apply(b, by)
	first, _ := op.Apply(b, o)
	one, err := op.Apply(behind, told)
	if err != api.OK {
		t.Fatalf("Over of %+v by %+v can't be done: error %d", o, by, err)
	}
	isEdit := by.Kind >= api.OpRowsIn && by.Kind <= api.OpColsOut || by.Kind == api.OpSheetOut || by.Kind == api.OpRename
	isThing := o.Kind == api.OpSet || o.Kind == api.OpName || o.Kind == api.OpRule
	if isEdit && isThing {
		if other, err := op.Apply(first, by); err != api.OK || !book.Same(one, other) {
			t.Fatalf("%+v and %+v leave another workbook (error %d)", o, by, err)
		}
	}
	isNew := by.Kind == api.OpRowsIn || by.Kind == api.OpColsIn || by.Kind == api.OpRename
	if isNew && (o.Kind == api.OpSet || o.Kind == api.OpName) && !namesMore(b, o.S) {
		got, err := rebase.Back(b, told, by)
		got.S = strings.ToUpper(strings.ReplaceAll(got.S, " ", ""))
		o.S = strings.ToUpper(strings.ReplaceAll(o.S, " ", ""))
		if err != api.OK || !op.Same(got, o) {
			t.Fatalf("%+v over %+v and back is %+v, error %d", o, by, got, err)
		}
	}
}

// namesMore says whether a formula names a sheet that there is not, or reaches a sheet's edge.
func namesMore(b api.Book, formula string) bool {
	for _, s := range []string{"200", "199", "198", "197", "AZ"} {
		if strings.Contains(formula, s) {
			return true
		}
	}
	for _, s := range []string{"S", "two X", "T", "V", "It"} {
		_, found := book.Sheet(b, s)
		if !found && (strings.Contains(formula, s+"!") || strings.Contains(formula, s+"'!")) {
			return true
		}
	}
	return false
}

// P19.1, P19.2: what is told is new memory, and what was handed in stays.
func TestMemory(t *testing.T) {
	for _, by := range []api.Op{set(0, 0, 0, "1"), rowsIn(2, 0, 1), sheetOut(0), rename(2, "V"), sheetIn("W")} {
		b, cols := good(), []string{"x", "y"}
		o := table("N", 1, 30, 3, 1, cols...)
		for call, ask := range map[string]func(api.Book, api.Op, api.Op) (api.Op, api.Errno){"Over": rebase.Over, "Back": rebase.Back} {
			got, err := ask(b, o, by)
			if err != api.OK {
				t.Errorf("%s by %+v: error %d", call, by, err)
				continue
			}
			got.Table.Cols[0] = "changed"
			_ = append(got.Table.Cols[:1], "changed")
			if cols[0] != "x" || cols[1] != "y" || !book.Same(b, good()) {
				t.Errorf("%s by %+v shares memory", call, by)
			}
		}
	}
}
