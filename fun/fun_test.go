package fun_test

import (
	"math"
	"slices"
	"strings"
	"testing"

	"tabula/api"
	"tabula/dec"
	"tabula/fun"
	"tabula/tree"
	"tabula/val"
)

func num(m int, e int) api.Val { return api.Val{Kind: api.Num, N: api.Dec{M: m, E: e}} }
func text(s string) api.Val    { return api.Val{Kind: api.Text, S: s} }
func truth(b bool) api.Val     { return api.Val{Kind: api.Truth, B: b} }
func fault(n int) api.Val      { return api.Val{Kind: api.Fault, Err: n} }

func array(rows int, cols int, l ...api.Val) api.Val {
	return api.Val{Kind: api.Array, Rows: rows, Cols: cols, L: l}
}

func many(n int, v api.Val) []api.Val {
	var list []api.Val
	for range n {
		list = append(list, v)
	}
	return list
}

func function() api.Val {
	return api.Val{Kind: api.Func, S: "x;f", L: []api.Val{num(1, 0)}, Code: api.Code{Blocks: [][]api.Ins{{{Op: api.InEmpty}}, {{Op: api.InEmpty}}}, Params: []string{"", "y"}}, Fn: 1}
}

// values are those that formulas have no constants for, by names.
func values() map[string]api.Val {
	return map[string]api.Val{
		"e": {}, "f": function(), "most": text(strings.Repeat("z", 200)), "neg": num(-api.MaxDigit, 9), "huge": num(api.MaxDigit, 9), "tiny": num(1, -9),
		"gaps": array(2, 2, api.Val{}, num(1, 0), text(""), api.Val{}), "void": array(1, 1, api.Val{}), "wide": array(1, 400, many(400, num(1, 0))...), "tall": array(400, 1, many(400, num(2, 0))...), "half": array(20, 20, many(400, text("x"))...), "row21": array(1, 21, many(21, num(1, 0))...), "col20": array(20, 1, many(20, num(1, 0))...),
		"big": array(1, 3, num(api.MaxDigit, 9), num(api.MaxDigit, 9), num(-api.MaxDigit, 9)), "long": array(1, 2, text(strings.Repeat("z", 100)), text(strings.Repeat("z", 101))),
	}
}

// value is that of a constant.
func value(t *testing.T, n api.Node) api.Val {
	t.Helper()
	switch n.Kind {
	case api.NNum:
		return api.Val{Kind: api.Num, N: n.N}
	case api.NText:
		return text(n.S)
	case api.NTruth:
		return truth(n.B)
	case api.NFault:
		return fault(n.Err)
	case api.NRef:
		return fault(api.VRef)
	case api.NAhead:
		return api.Val{Kind: api.Num, N: api.Dec{M: -n.Kids[0].N.M, E: n.Kids[0].N.E}}
	case api.NName:
		v, ok := values()[n.S]
		if ok {
			return v
		}
	case api.NArray:
		var l []api.Val
		for _, kid := range n.Kids {
			l = append(l, value(t, kid))
		}
		return array(n.Rows, len(l)/n.Rows, l...)
	}
	t.Fatalf("%+v is no constant", n)
	return api.Val{}
}

// asked is the function's name, and the values, of a call in a formula.
func asked(t *testing.T, call string) (string, []api.Val) {
	t.Helper()
	n, at, err := tree.Read(call)
	if err != api.OK || n.Kind != api.NCall {
		t.Fatalf("Read(%q): error %d at %d", call, err, at)
	}
	var l []api.Val
	for _, kid := range n.Kids {
		l = append(l, value(t, kid))
	}
	return n.S, l
}

// checks are calls, with what is told of them, one a line.
func checks(t *testing.T, lines string) {
	t.Helper()
	for _, line := range strings.Split(strings.TrimSpace(lines), "\n") {
		call, want, found := strings.Cut(strings.TrimSpace(line), " => ")
		if !found {
			call, want = strings.TrimSuffix(call, " =>"), ""
		}
		name, l := asked(t, call)
		got := fun.Call(name, l, api.Dec{M: 7})
		s, err := val.Text(got)
		if s != want || err != api.OK {
			t.Errorf("%s: %s, error %d; want %s", call, s, err, want)
		}
	}
}

// bounds are all functions, with how many values they take.
const bounds = `ABS 1 1|SIGN 1 1|INT 1 1|TRUNC 1 1|ROUND 1 2|MOD 2 2|QUOTIENT 2 2|POWER 2 2|FACT 1 1|ISEVEN 1 1|ISODD 1 1|NOT 1 1|IF 2 3|IFERROR 2 2|IFNA 2 2|ISNUMBER 1 1|ISTEXT 1 1|ISLOGICAL 1 1|ISERROR 1 1|ISBLANK 1 1|ISNA 1 1|LEN 1 1|LEFT 1 2|RIGHT 1 2|MID 3 3|UPPER 1 1|LOWER 1 1|TRIM 1 1|REPT 2 2|FIND 2 3|SUBSTITUTE 3 3|EXACT 2 2|VALUE 1 1|CODE 1 1|CHAR 1 1|SUM 1 20|PRODUCT 1 20|MIN 1 20|MAX 1 20|COUNT 1 20|COUNTA 1 20|COUNTBLANK 1 20|AVERAGE 1 20|MEDIAN 1 20|LARGE 2 2|SMALL 2 2|AND 1 20|OR 1 20|XOR 1 20|TRUE 0 0|FALSE 0 0|NA 0 0|NOW 0 0|CHOOSE 2 20|TYPE 1 1|CONCAT 1 20|TEXTJOIN 3 20|ROWS 1 1|COLUMNS 1 1|INDEX 2 3|MATCH 2 2|TRANSPOSE 1 1|SEQUENCE 1 4|UNIQUE 1 1|SORT 1 2|FILTER 2 3|VLOOKUP 3 3|COUNTIF 2 2|SUMIF 2 3`

type bound struct {
	name        string
	least, most int
}

func all() []bound {
	var list []bound
	for _, s := range strings.Split(bounds, "|") {
		f := strings.Fields(s)
		least, _ := dec.Read(f[1])
		most, _ := dec.Read(f[2])
		m, _ := dec.Floor(most)
		n, _ := dec.Floor(least)
		list = append(list, bound{f[0], n, m})
	}
	return list
}

// P7.1: which functions there are.
func TestKnown(t *testing.T) {
	var names []string
	for _, b := range all() {
		names = append(names, b.name)
		for _, name := range []string{b.name, strings.ToLower(b.name), b.name[:1] + strings.ToLower(b.name[1:])} {
			if least, most, ok := fun.Known(name); least != b.least || most != b.most || !ok {
				t.Errorf("Known(%q): %d, %d, %v; want %d, %d", name, least, most, ok, b.least, b.most)
			}
		}
	}
	slices.Sort(names)
	got := fun.Names()
	if !slices.Equal(got, names) {
		t.Errorf("Names: %v; want %v", got, names)
	}
	got[0] = "scratched"
	if again := fun.Names(); !slices.Equal(again, names) {
		t.Errorf("Names the second time: %v", again)
	}
	for _, name := range []string{"", "X", "SUM ", " SUM", "SUMS", "LAMBDA", "LET", "\xff", "ſUM", "ıF", "\x00", strings.Repeat("A", 100000)} {
		if least, most, ok := fun.Known(name); least != 0 || most != 0 || ok {
			t.Errorf("Known(%q): %d, %d, %v", name, least, most, ok)
		}
		for _, l := range [][]api.Val{nil, {num(1, 0)}, {num(10, 0)}, {fault(7)}, {array(1, 1, num(1, 0))}} {
			if got := fun.Call(name, l, api.Dec{}); !val.Same(got, fault(5)) {
				t.Errorf("Call(%q, %+v): %+v; want VName", name, l, got)
			}
		}
	}
}

// P7.2: as many values as a function takes, all of them right.
func TestCallWrong(t *testing.T) {
	wrongs := []api.Val{num(10, 0), {Kind: 9}, {Kind: -1}, text("\xff"), fault(0), array(1, 2, num(1, 0)), array(0, 0), {N: api.Dec{M: 1}}, {Kind: api.Func}, num(math.MinInt, 0), text(strings.Repeat("x", 201))}
	for _, b := range all() {
		for n := range 30 {
			l := many(n, num(1, 0))
			got := fun.Call(b.name, l, api.Dec{})
			if n < b.least || n > b.most {
				if !val.Same(got, fault(3)) {
					t.Errorf("%s of %d values: %+v; want VValue", b.name, n, got)
				}
				if got := fun.Call(b.name, many(n, fault(7)), api.Dec{}); !val.Same(got, fault(3)) {
					t.Errorf("%s of %d errors: %+v; want VValue", b.name, n, got)
				}
				continue
			}
			if low := fun.Call(strings.ToLower(b.name), l, api.Dec{}); !val.Right(got) || !val.Same(low, got) {
				t.Errorf("%s of %d values: %+v, in small letters %+v", b.name, n, got, low)
			}
			for i := range n {
				for _, w := range wrongs {
					l := many(n, fault(7))
					l[i] = w
					if got := fun.Call(b.name, l, api.Dec{}); !val.Same(got, fault(3)) {
						t.Errorf("%s with %+v in place %d: %+v; want VValue", b.name, w, i, got)
					}
				}
			}
		}
	}
	checks(t, `
		SUM() => #VALUE!
		TRUE(1) => #VALUE!
		IF(1) => #VALUE!
		IF(1,2,3,4) => #VALUE!
		nofunction(1) => #NAME?
	`)
}

// P7.2, NOW: the time.
func TestNow(t *testing.T) {
	for _, now := range []api.Dec{{}, {M: 7}, {M: -15, E: -1}, {M: api.MaxDigit, E: 9}} {
		if got := fun.Call("now", nil, now); !val.Same(got, api.Val{Kind: api.Num, N: now}) {
			t.Errorf("NOW at %v: %+v", now, got)
		}
	}
	for _, now := range []api.Dec{{M: 10}, {E: 1}, {M: 1, E: 10}, {M: math.MinInt}} {
		if got := fun.Call("NOW", nil, now); !val.Same(got, fault(6)) {
			t.Errorf("NOW at %v: %+v; want VNum", now, got)
		}
		if got := fun.Call("SUM", many(2, num(1, 0)), now); !val.Same(got, num(2, 0)) {
			t.Errorf("SUM at %v: %+v", now, got)
		}
	}
}

// spare is v with lists that have room, which whoever is handed v must leave alone.
func spare(v api.Val) api.Val {
	l := make([]api.Val, 0, len(v.L)+3)
	for _, x := range v.L {
		l = append(l, spare(x))
	}
	v.L = l
	blocks := make([][]api.Ins, 0, len(v.Code.Blocks)+3)
	for _, b := range v.Code.Blocks {
		blocks = append(blocks, append(make([]api.Ins, 0, len(b)+3), b...))
	}
	v.Code.Blocks = blocks
	v.Code.Params = append(make([]string, 0, len(v.Code.Params)+3), v.Code.Params...)
	return v
}

// scratch writes into all that a value's lists can reach.
func scratch(v api.Val) {
	for i := range v.L {
		scratch(v.L[i])
	}
	for _, b := range v.Code.Blocks {
		for i := range b[:cap(b)] {
			b[:cap(b)][i] = api.Ins{Op: 99}
		}
	}
	for i := range v.Code.Params[:cap(v.Code.Params)] {
		v.Code.Params[:cap(v.Code.Params)][i] = "scratched"
	}
	for i := range v.L[:cap(v.L)] {
		v.L[:cap(v.L)][i] = text("scratched")
	}
}

// some are right values of all kinds.
func some() []api.Val {
	return []api.Val{{}, num(0, 0), num(1, 0), num(2, 0), num(3, 0), num(-15, -1), num(api.MaxDigit, 9), text(""), text("2"), text("abc"), text("true"), text("é日x"), truth(true), truth(false), fault(2), fault(7), function(), array(1, 1, num(1, 0)), array(1, 2, num(1, 0), text("a")), array(2, 1, truth(true), truth(false)), array(2, 2, num(3, 0), num(1, 0), api.Val{}, text("b")), array(3, 1, num(1, 0), fault(2), num(1, 0)), array(2, 3, num(2, 0), text("b"), num(1, 0), num(2, 0), text("B"), num(1, 0)), array(1, 30, many(30, num(2, 0))...), array(30, 1, many(30, text("x"))...)}
}

// dice are numbers that look like chance, and are the same in each run.
type dice uint64

func (d *dice) below(n int) int {
	*d = *d*6364136223846793005 + 1442695040888963407
	return int(uint64(*d)>>33) % n
}

func (d *dice) some(n int) []api.Val {
	list := some()
	var l []api.Val
	for range n {
		l = append(l, list[d.below(len(list))])
	}
	return l
}

// P7.2, P7.4: what is told is right, and new memory, of whatever values.
func TestMemory(t *testing.T) {
	d := dice(1)
	for _, b := range all() {
		for range 120 {
			var in, before []api.Val
			for _, v := range d.some(b.least + d.below(min(b.most, 5)-b.least+1)) {
				in, before = append(in, spare(v)), append(before, spare(v))
			}
			room := append(make([]api.Val, 0, len(in)+2), in...)
			got := fun.Call(b.name, room, api.Dec{M: 5})
			want := spare(got)
			if !val.Right(got) {
				t.Errorf("%s of %+v: %+v", b.name, before, got)
			}
			if !slices.EqualFunc(in, before, val.Same) || !slices.EqualFunc(room[:cap(room)][len(room):], many(cap(room)-len(room), api.Val{}), val.Same) {
				t.Errorf("%s of %+v has changed them", b.name, before)
			}
			for i := range in {
				scratch(room[i])
				room[i] = api.Val{Kind: 99}
			}
			if !val.Same(got, want) {
				t.Errorf("%s of %+v shares memory with them", b.name, before)
			}
			again := fun.Call(b.name, before, api.Dec{M: 5})
			scratch(got)
			if !val.Same(again, want) {
				t.Errorf("%s of %+v tells otherwise the second time, or shares memory", b.name, before)
			}
		}
	}
}

// letters are those of lifted functions.
const letters = "ABS n|SIGN n|INT n|TRUNC n|ROUND nn|MOD nn|QUOTIENT nn|POWER nn|FACT n|ISEVEN n|ISODD n|NOT b|IF bvv|IFERROR vv|IFNA vv|ISNUMBER v|ISTEXT v|ISLOGICAL v|ISERROR v|ISBLANK v|ISNA v|LEN t|LEFT tn|RIGHT tn|MID tnn|UPPER t|LOWER t|TRIM t|REPT tn|FIND ttn|SUBSTITUTE ttt|EXACT tt|VALUE n|CODE t|CHAR n"

// P7.3, P7.4: functions with letters: their values are told by these, errors first, and arrays are gone through one by one.
func TestLifted(t *testing.T) {
	as := map[byte]func(api.Val) api.Val{'n': val.ToNum, 't': val.ToText, 'b': val.ToBool}
	d := dice(2)
	for _, line := range strings.Split(letters, "|") {
		name, by, _ := strings.Cut(line, " ")
		least, most, _ := fun.Known(name)
		for range 500 {
			l := d.some(least + d.below(most-least+1))
			got := fun.Call(name, l, api.Dec{})
			rows, cols := 0, 0
			for _, v := range l {
				rows, cols = max(rows, v.Rows), max(cols, v.Cols)
			}
			want := array(rows, cols)
			switch {
			case rows == 0:
				want = got
				for i, v := range l {
					if do := as[by[i]]; do != nil && do(v).Kind == api.Fault {
						want = do(v)
						break
					}
				}
				told := slices.Clone(l)
				for i, v := range told {
					if do := as[by[i]]; do != nil {
						told[i] = do(v)
					}
				}
				if again := fun.Call(name, told, api.Dec{}); !val.Same(again, got) {
					t.Fatalf("%s of %+v: %+v; of what is told of them %+v", name, l, got, again)
				}
			case rows*cols > 400:
				want = fault(6)
			default:
				for row := range rows {
					for col := range cols {
						var there []api.Val
						for _, v := range l {
							there = append(there, val.Get(v, row, col))
						}
						v := fun.Call(name, there, api.Dec{})
						if v.Kind == api.Func || v.Kind == api.Array {
							v = fault(3)
						}
						want.L = append(want.L, v)
					}
				}
			}
			if !val.Same(got, want) {
				t.Fatalf("%s of %+v: %+v; want %+v", name, l, got, want)
			}
		}
	}
	checks(t, `
		ABS({-1,"2",TRUE;"x",#N/A,-3}) => {1,2,1;#VALUE!,#N/A,3}
		ROUND({1.25,2.5},1) => {1.3,2.5}
		ROUND({1.25;2.5},{0,1}) => {1,1.3;3,2.5}
		MOD({5,6,7},{3,4}) => {2,2,#N/A}
		LEFT({"abc","de"},{1;2;3}) => {"a","d";"ab","de";"abc","de"}
		ROUND(1.5,row21) => {`+strings.Repeat(",1.5", 21)[1:]+`}
		ROUND(row21,col20) => #NUM!
		ROUND(wide,tall) => #NUM!
		IF({TRUE,FALSE},f,{1,2}) => {#VALUE!,2}
		IFERROR({1,#N/A},f) => {1,#VALUE!}
		ISERROR({1,#N/A}) => {FALSE,TRUE}
		ISBLANK(gaps) => {TRUE,FALSE;FALSE,TRUE}
		ABS(f) => #VALUE!
		MOD(#N/A,#DIV/0!) => #N/A
		MOD("x",#DIV/0!) => #VALUE!
		MOD(1,f) => #VALUE!
		IF(#N/A,#DIV/0!,1) => #N/A
		FIND("x",#NUM!,"y") => #NUM!
		MID(f,#N/A,1) => #VALUE!
		NOT({1}) => {FALSE}
	`)
}
