package what_test

import (
	"strconv"
	"testing"

	"tabula/api"
	"tabula/book"
	"tabula/dec"
	"tabula/val"
	"tabula/what"
)

// P24.1: what is shown with an input tried.
func TestTry(t *testing.T) {
	const cells = "A1: 2 | B1: =A1*3 | B2: =NOW()+A1 | T!A1: =S!B1&S!A2"
	for _, c := range []struct{ place, input, out, want string }{
		{"A1", "5", "B1", "15"}, {"A1", "5", "A1", "5"}, {"A1", "", "B1", "0"}, {"A1", "", "A1", ""}, {"A1", "x", "B1", "#VALUE!"}, {"A1", "=B2", "B1", "#CIRC!"},
		{"A1", "={4;5}", "T!A1", "'125"}, {"A1", "={4;5}", "A2", "5"}, {"A1", "1", "B2", "8"}, {"C9", "1", "B1", "6"}, {"T!B1", "=A1", "T!B1", "'6"}, {"C1", "=LAMBDA(x,x)", "C1", "#VALUE!"}, {"C1", "9", "Z99", ""}, {"C1", "={1,2}", "C1", "1"}, {"A1", "={1,2}", "A1", "#SPILL!"},
	} {
		b := sheets(t, cells)
		v, err := what.Try(b, at(t, c.place), c.input, at(t, c.out), api.Dec{M: 7})
		if text(v) != c.want || err != api.OK {
			t.Errorf("%s tried at %s: %s shows %s, error %d; want %s", c.input, c.place, c.out, text(v), err, c.want)
		}
		if !book.Same(b, sheets(t, cells)) {
			t.Errorf("%s tried at %s changes the workbook", c.input, c.place)
		}
	}
}

// wrongs are arguments of Try that are wrong, in the order of what is told, and what is told.
func wrongs(t *testing.T) []struct {
	b     api.Book
	at    api.At
	input string
	out   api.At
	now   api.Dec
	want  api.Errno
} {
	good, bad := sheets(t, "A1: 1"), sheets(t, "A1: 1")
	bad.Sheets[1].Name = "s"
	off, none := api.At{Sheet: 2}, api.Dec{M: 10}
	return []struct {
		b     api.Book
		at    api.At
		input string
		out   api.At
		now   api.Dec
		want  api.Errno
	}{
		{bad, off, "=1+", off, none, api.ErrSheet}, {api.Book{}, api.At{}, "1", api.At{}, api.Dec{}, api.ErrLimit},
		{good, off, "=1+", off, none, api.ErrArg}, {good, api.At{Row: 200}, "1", api.At{}, api.Dec{}, api.ErrArg}, {good, api.At{Col: -1}, "1", api.At{}, api.Dec{}, api.ErrArg},
		{good, api.At{}, "=1+", off, none, api.ErrCell}, {good, api.At{}, "\x01", api.At{}, api.Dec{}, api.ErrCell},
		{full(), api.At{Row: 50}, "1", off, none, api.ErrLimit},
		{good, api.At{}, "1", api.At{}, none, api.ErrArg}, {good, api.At{}, "1", off, api.Dec{}, api.ErrArg}, {good, api.At{}, "1", api.At{Sheet: -1}, api.Dec{}, api.ErrArg}, {good, api.At{}, "1", api.At{Row: 200}, api.Dec{}, api.ErrArg}, {good, api.At{}, "1", api.At{Col: 52}, api.Dec{}, api.ErrArg}, {good, api.At{}, "1", api.At{Col: -1}, api.Dec{}, api.ErrArg},
	}
}

// P24.1 to P24.3: what is wrong, in its order.
func TestWrong(t *testing.T) {
	zero, two := api.Dec{}, api.Dec{M: 2}
	for i, c := range wrongs(t) {
		if v, err := what.Try(c.b, c.at, c.input, c.out, c.now); !val.Same(v, api.Val{}) || err != c.want {
			t.Errorf("Try %d: %s, error %d; want %d", i, text(v), err, c.want)
		}
		if v, err := what.Table(c.b, c.at, []string{c.input, "=1+"}, []api.At{c.out, {Sheet: 7}}, c.now); !val.Same(v, api.Val{}) || err != c.want {
			t.Errorf("Table %d: %s, error %d; want %d", i, text(v), err, c.want)
		}
		for _, n := range []int{0, 21} {
			if v, err := what.Table(c.b, c.at, make([]string, n), []api.At{c.out}, c.now); !val.Same(v, api.Val{}) || err != api.ErrTry {
				t.Errorf("Table %d of %d inputs: %s, error %d", i, n, text(v), err)
			}
		}
		for _, n := range []int{0, 11} {
			if v, err := what.Table(c.b, c.at, []string{c.input}, make([]api.At, n), c.now); !val.Same(v, api.Val{}) || err != api.ErrTry {
				t.Errorf("Table %d of %d outs: %s, error %d", i, n, text(v), err)
			}
		}
		if n, err := what.Seek(c.b, c.at, c.out, zero, zero, two, c.now); c.want != api.ErrCell && (n != zero || err != c.want) {
			t.Errorf("Seek %d: %v, error %d; want %d", i, n, err, c.want)
		}
		for _, l := range [][3]api.Dec{{{M: 10}, zero, two}, {zero, {M: 10}, two}, {zero, zero, {M: 20}}, {zero, two, two}, {zero, two, zero}, {zero, {M: 5, E: -1}, {M: -5}}} {
			if n, err := what.Seek(c.b, c.at, c.out, l[0], l[1], l[2], c.now); n != zero || err != api.ErrSeek {
				t.Errorf("Seek %d of %v: %v, error %d", i, l, n, err)
			}
		}
	}
	b := sheets(t, "A1: 1")
	if v, err := what.Table(b, api.At{}, []string{"1", "=1+"}, []api.At{{}}, zero); !val.Same(v, api.Val{}) || err != api.ErrCell {
		t.Errorf("Table with a wrong input behind: %s, error %d", text(v), err)
	}
	if v, err := what.Table(b, api.At{}, []string{"1", "=1+"}, []api.At{{}, {Row: -1}}, zero); !val.Same(v, api.Val{}) || err != api.ErrArg {
		t.Errorf("Table with a wrong place in the first row: %s, error %d", text(v), err)
	}
}

// P24.2: inputs and cells.
func TestTable(t *testing.T) {
	b := sheets(t, "A1: 2 | B1: =A1*3 | T!A1: =S!B1+NOW()")
	for _, c := range []struct {
		inputs []string
		outs   string
		want   string
	}{
		{[]string{"5"}, "B1", "{15}"},
		{[]string{"5", "", "x"}, "B1 A1 T!A1 Z9", "{15,5,16,;0,,1,;#VALUE!,\"x\",#VALUE!,}"},
		{[]string{"5", "5", "6"}, "B1 B1", "{15,15;15,15;18,18}"},
		{[]string{"={1;2}"}, "A1 A2 B1", "{1,2,3}"},
	} {
		v, err := what.Table(b, api.At{}, c.inputs, places(t, c.outs), api.Dec{M: 1})
		if text(v) != c.want || err != api.OK || !val.Right(v) {
			t.Errorf("Table of %q and %s: %s, error %d; want %s", c.inputs, c.outs, text(v), err, c.want)
		}
	}
	inputs := make([]string, 20)
	for i := range inputs {
		inputs[i] = strconv.Itoa(i)
	}
	v, err := what.Table(b, api.At{}, inputs, places(t, "A1 B1 T!A1 A1 B1 C1 D1 A2 A3 B1"), api.Dec{})
	if v.Rows != 20 || v.Cols != 10 || err != api.OK || text(v.L[199]) != "57" {
		t.Errorf("Table of as much as there may be: %s, error %d", text(v), err)
	}
}

// P24.3: numbers that are sought.
func TestSeek(t *testing.T) {
	for _, c := range []struct{ formula, goal, low, high, want string }{
		{"=A1*3", "9", "0", "8", "3"}, {"=A1*3", "0", "0", "8", "0"}, {"=A1*3", "24", "0", "8", "8"}, {"=A1*3", "25", "0", "8", "none"}, {"=A1*3", "-1", "0", "8", "none"},
		{"=A1*-3", "-9", "0", "8", "3"}, {"=A1*-3", "9", "0", "8", "none"}, {"=A1*-3", "-9", "-2", "8", "3"},
		{"=A1*A1", "2", "0", "2", "1.414214"}, {"=A1*A1", "2", "1.4", "1.5", "1.414214"}, {"=A1^3", "-27", "-10", "3", "-3"},
		{"=A1*3", "1", "0", "1", "0.333333"}, {"=A1*3", "2", "0", "1", "0.666667"}, {"=A1*7", "1", "0", "1", "0.142857"},
		{"=IF(A1<0.5,1,3)", "2", "0", "1", "0.499999"}, {"=IF(A1<0.5,1,4)", "2", "0", "1", "0.499999"}, {"=IF(A1<0.5,1,4)", "3", "0", "1", "0.5"}, {"=IF(A1<0.5,3,1)", "2", "0", "1", "0.499999"},
		{"=A1*0+7", "7", "0", "8", "0"}, {"=IF(A1=0,7,\"x\")", "7", "0", "8", "0"}, {"=IF(A1=0,1,\"x\")", "7", "0", "8", "none"}, {"=IF(A1=8,7,\"x\")", "7", "0", "8", "none"}, {"=IF(A1=4,TRUE,A1)", "7", "0", "8", "none"}, {"=IF(A1=4,1/0,A1)", "5", "0", "8", "none"}, {"=IF(A1=4,Z9,A1)", "5", "0", "8", "none"}, {"=\"\"&A1", "5", "0", "8", "none"},
		{"=A1", "0.000001", "0", "0.000003", "0.000001"}, {"=A1", "0.0000015", "0.000001", "0.000002", "0.000001"}, {"=A1", "0.0000016", "0.000001", "0.000002", "0.000002"}, {"=A1", "0.000000005", "0", "0.00000001", "0"}, {"=A1", "0.000000009", "0", "0.00000001", "0.00000001"},
		{"=A1", "1000000000000000000000", "900000000000000000000000", "990000000000000000000000", "none"}, {"=A1", "980000000000000000000000", "900000000000000000000000", "990000000000000000000000", "none"}, {"=A1", "980000000000000000000000", "-990000000000000000000000", "990000000000000000000000", "none"}, {"=A1", "-1", "-990000000000000000000000", "990000000000000000000000", "-"},
		{"=IF(A1<0.5,-9.9,9.9)*10^23", "980000000000000000000000", "0", "1", "none"}, {"=IF(A1<0.5,-9.9,9.9)*10^23", "-980000000000000000000000", "0", "1", "none"}, {"=IF(A1<0.5,-1,9.9)*10^22", "98000000000000000000000", "0", "1", "0.5"},
		{"=IF(A1=8,\"x\",5-A1)", "2", "0", "8", "none"}, {"=A1", "0.00000011", "0.0000001", "0.0000002", "0.0000001"}, {"=A1", "0.00000079", "0.0000007", "0.0000008", "0.0000008"}, {"=A1", "-0.0000011", "-0.000002", "-0.000001", "-0.000001"},
		{"=A1+NOW()", "5", "0", "8", "-"}, {"=A1", "0.123456", "-100000000000000000000", "100000000000000000000", "-"}, {"=A1", "0.1", "-1000000000", "1000000000", "0.1"},
	} {
		b := sheets(t, "A1: 100 | B1: "+c.formula)
		out, goal, low, high, now := at(t, "B1"), num(t, c.goal), num(t, c.low), num(t, c.high), num(t, "2")
		n, err := what.Seek(b, api.At{}, out, goal, low, high, now)
		want, wrong, _ := sought(b, api.At{}, out, goal, low, high, now)
		if n != want || err != wrong {
			t.Errorf("%s is %s, from %s to %s: %v, error %d; by words %v, error %d", c.formula, c.goal, c.low, c.high, n, err, want, wrong)
		}
		told, _ := dec.Text(n)
		if err == api.ErrSeek {
			told = "none"
		}
		if told != c.want && c.want != "-" {
			t.Errorf("%s is %s, from %s to %s: %s, error %d; want %s", c.formula, c.goal, c.low, c.high, told, err, c.want)
		}
		if !book.Same(b, sheets(t, "A1: 100 | B1: "+c.formula)) {
			t.Errorf("%s: seeking changes the workbook", c.formula)
		}
	}
}

// P24.3: halves are gone through fifty times, and no more.
func TestHalves(t *testing.T) {
	b := sheets(t, "B1: =A1")
	low, high := num(t, "-100000000000000000000"), num(t, "100000000000000000000")
	for _, goal := range []string{"0.123456", "12345678901.5", "-7777777777777.7", "33333333333.333", "5", "987654321098765"} {
		want, wrong, rounds := sought(b, api.At{}, api.At{Col: 1}, num(t, goal), low, high, api.Dec{})
		n, err := what.Seek(b, api.At{}, api.At{Col: 1}, num(t, goal), low, high, api.Dec{})
		if n != want || err != wrong || err != api.OK || rounds != 50 || n == num(t, goal) {
			t.Errorf("%s: %v, error %d, behind %d halves; want %v", goal, n, err, rounds, want)
		}
	}
}

// P24.1 to P24.4 held against the chapter's words: what is sought is from low to high.
func TestMany(t *testing.T) {
	d, found := dice(1), 0
	for range 400 {
		formula := "=" + d.one("A1", "A1*A1", "-A1*2", "A1^3-A1", "1/A1", "IF(A1>1,A1,-5)", "INT(A1)", "MOD(A1,3)", "A1&\"\"", "IF(A1=4,\"x\",A1)", "ROUND(A1,1)*3", "SUM(A1:A2)", "NOW()*A1")
		b := sheets(t, "A1: 7 | A2: =B1 | B1: "+formula+" | C1: =B1+1")
		out := at(t, d.one("B1", "B1", "C1", "A1", "A2", "Z1", "T!A1"))
		goal, low, high := num(t, d.one("0", "1", "2", "-5", "4", "0.5", "1.1")), num(t, d.one("-3", "0", "1", "0.1", "2.5")), num(t, d.one("1.7", "3", "8", "4.000001", "1000000"))
		n, err := what.Seek(b, api.At{}, out, goal, low, high, api.Dec{M: 2})
		want, wrong, _ := sought(b, api.At{}, out, goal, low, high, api.Dec{M: 2})
		if dec.Compare(low, high) >= 0 {
			want, wrong = api.Dec{}, api.ErrSeek
		}
		if n != want || err != wrong {
			t.Fatalf("%s is %v, from %v to %v: %v, error %d; want %v, error %d", formula, goal, low, high, n, err, want, wrong)
		}
		if err == api.OK {
			found++
			if dec.Compare(n, low) < 0 || dec.Compare(n, high) > 0 {
				t.Fatalf("%v is not from %v to %v", n, low, high)
			}
		}
		place, input := at(t, d.one("A1", "A2", "B1", "T!A1")), d.one("1", "x", "", "=A1", "={1;2}")
		v, err := what.Try(b, place, input, out, api.Dec{M: 2})
		if w, wrong := tried(b, place, input, out, api.Dec{M: 2}); !val.Same(v, w) || err != wrong {
			t.Fatalf("%s tried: %s, error %d; want %s", input, text(v), err, text(w))
		}
	}
	if found < 80 {
		t.Errorf("only %d numbers are found", found)
	}
}
