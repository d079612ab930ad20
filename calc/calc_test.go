package calc_test

import (
	"math"
	"strconv"
	"strings"
	"testing"

	"tabula/api"
	"tabula/book"
	"tabula/calc"
	"tabula/val"
)

// P15.1: what cells show.
func TestValues(t *testing.T) {
	for cells, want := range map[string]string{
		"":                               "",
		"A1: 2 | B1: =A1*3 | C1: ={1;2}": "A1: 2 | B1: 6 | C1: 1 | C2: 2",
		"A1: =B1 | B1: =A1+1":            "A1: #CIRC! | B1: #CIRC!",
		"A1: x | B1: '12 | C1: TRUE | D1: #N/A | E1: '":           "A1: x | B1: '12 | C1: TRUE | D1: #N/A | E1: '",
		"A1: =B1 | B2: =B1&\"\" | C1: =A1+1":                      "C1: 1 | B2: '",
		"A1: ={7} | B1: =A1+1":                                    "A1: 7 | B1: 8",
		"A1: =LAMBDA(x,x) | B1: =A1":                              "A1: #VALUE! | B1: #VALUE!",
		"A1: ={1,2;3,4} | C1: =A2 | C2: =B2+B1 | A3: =SUM(A1:B2)": "A1: 1 | B1: 2 | C1: 3 | A2: 3 | B2: 4 | C2: 6 | A3: 10",
		"A1: ={1;2;3} | A3: x":                                    "A1: #SPILL! | A3: x",
		"A1: ={1,2} | B1: ={3;4}":                                 "A1: #SPILL! | B1: 3 | B2: 4",
		"A2: ={1,2} | B1: ={3;4}":                                 "B1: 3 | A2: #SPILL! | B2: 4",
		"AZ1: ={1,2} | A200: ={1;2}":                              "AZ1: #SPILL! | A200: #SPILL!",
		"A1: =B1:B3 | B2: 5":                                      "A2: 5 | B2: 5",
		"A1: =SEQUENCE(B1) | B1: 3 | A4: 9":                       "A1: 1 | B1: 3 | A2: 2 | A3: 3 | A4: 9",
		"A1: =SEQUENCE(20,20) | T!A1: =S!T20":                     "T!A1: 400",
		"T!A1: =S!A1+T!B1 | A1: 4 | T!B1: =rate | T!B2: 5":        "A1: 4 | T!A1: 14 | T!B1: 10 | T!B2: 5",
		"A1: =fact(5) | A2: =fact(40)":                            "A1: 120 | A2: #NUM!",
		"T!D2: head | T!D3: 1 | T!D4: 2 | A1: =SUM(Tab[a])":       "A1: 3 | T!D2: head | T!D3: 1 | T!D4: 2",
		"A1: =much | B1: =-much | C1: =much+1":                    "A1: -1 | B1: #VALUE! | C1: #VALUE!",
		"A1: =LET(a,1,b,2,LAMBDA(a+b)) | B1: ={1;2}":              "A1: #VALUE! | B1: 1 | B2: 2",
		"A1: =NOW() | B1: =A1+NOW()":                              "A1: 45 | B1: 90",
		"A1: =IF(A1=\"\",1,A1)":                                   "A1: 1",
		"A1: =MIN(A1+1,20)":                                       "A1: #CIRC!",
		"A1: =MIN(A1+1,19)":                                       "A1: 19",
		"A1: =MIN(B1+1,9) | B1: =A1":                              "A1: 9 | B1: 9",
		"A1: =A2 | A2: =A3 | A3: =A1":                             "",
		"A1: =A2 | A2: =A1 | B1: =A1+1 | A3: =A3&1":               "B1: 1 | A3: #CIRC!",
		"A1: =COUNT(B1:B9) | B1: =SEQUENCE(3)":                    "A1: 3 | B1: 1 | B2: 2 | B3: 3",
		"A1: =SEQUENCE(COUNT(A2:A9)+1)":                           "A1: 1",
		"A1: =IF(COUNT(A2:A3)=0,{1;2},5)":                         "A1: #SPILL!",
		"A1: =IF(B2=2,{1;2;3},{1;2}) | B1: =A1:A2":                "A1: 1 | B1: 1 | A2: 2 | B2: 2 | A3: 3",
	} {
		b := sheets(t, cells)
		l, err := calc.Values(b, api.Dec{M: 45})
		got := written(b, l)
		if strings.Contains(cells, "SEQUENCE(20,20)") {
			if len(l) != 401 || written(b, l[400:]) != want {
				t.Errorf("%s: %d places, the last one %s", cells, len(l), written(b, l[400:]))
			}
			continue
		}
		if got != want || err != api.OK {
			t.Errorf("%s:\n %s, error %d; want\n %s", cells, got, err, want)
		}
		check(t, b, api.Dec{M: 45}, nil)
	}
}

// chain has so many formulas each of which spills, once the one ahead of it does.
func chain(n int) string {
	list := []string{"A1: ={1;2}"}
	for i := range n - 1 {
		list = append(list, "A"+strconv.Itoa(4+3*i)+": =IF(A"+strconv.Itoa(2+3*i)+"=\"\",0,{1;2})")
	}
	return strings.Join(list, " | ")
}

// P15.1: eight lays may be gone through, and no more: then nothing spills.
func TestLays(t *testing.T) {
	for n := 1; n <= 9; n++ {
		b := sheets(t, chain(n))
		var parts []string
		for i := range n {
			shows := ": 1 | A" + strconv.Itoa(2+3*i) + ": 2"
			switch {
			case n > 7 && i == 0:
				shows = ": #SPILL!"
			case n > 7:
				shows = ": 0"
			}
			parts = append(parts, "A"+strconv.Itoa(1+3*i)+shows)
		}
		l, err := calc.Values(b, api.Dec{})
		if got, want := written(b, l), strings.Join(parts, " | "); got != want || err != api.OK {
			t.Errorf("%d formulas: %s, error %d; want %s", n, got, err, want)
		}
		check(t, b, api.Dec{}, nil)
	}
	for n, want := range map[int]string{7: "A1: 1 | C1: 7 | D1: 8 | A2: 2", 8: "A1: #SPILL! | C1: 7 | D1: 0 | A4: 0"} {
		b := sheets(t, chain(n)+" | C1: ={7} | D1: =IF(A20=\"\",0,{8})")
		l, err := calc.Values(b, api.Dec{})
		if got := written(b, l); !strings.HasPrefix(got, want) || err != api.OK {
			t.Errorf("%d formulas, and arrays of one value: %s, error %d; want %s", n, got, err, want)
		}
	}
}

// P15.1: what one cell shows, and what is no cell.
func TestCell(t *testing.T) {
	b := sheets(t, "A1: 2 | B1: =A1*3 | C1: ={1;2} | D1: =LAMBDA(1) | T!A1: ={1,2} | T!B1: x")
	for place, want := range map[string]string{"A1": "2", "B1": "6", "C1": "1", "C2": "2", "C3": "", "D1": "#VALUE!", "T!A1": "#SPILL!", "T!B1": "x", "T!C1": "", "AZ200": ""} {
		v, err := calc.Cell(b, at(b, place), api.Dec{})
		if s, _ := val.Text(v); s != want || err != api.OK || want == "" && !val.Same(v, api.Val{}) {
			t.Errorf("Cell of %s: %s, error %d; want %s", place, s, err, want)
		}
	}
	for _, n := range []int{-1, 200, math.MinInt, math.MaxInt} {
		for _, at := range []api.At{{Sheet: n}, {Row: n}, {Col: n}, {Sheet: 2}, {Sheet: 7}, {Col: 52}} {
			if v, err := calc.Cell(b, at, api.Dec{}); !val.Same(v, api.Val{}) || err != api.ErrArg {
				t.Errorf("Cell of %+v: %v, error %d", at, v, err)
			}
		}
	}
}

// P15.1: what is wrong, and what goes ahead.
func TestErrors(t *testing.T) {
	good := sheets(t, "A1: 2 | B1: =A1")
	bad := sheets(t, "A1: 2")
	bad.Sheets[0].Cells[0].Input = "=1+"
	for _, c := range []struct {
		b   api.Book
		now api.Dec
		err api.Errno
	}{{bad, api.Dec{M: 10}, api.ErrCell}, {bad, api.Dec{}, api.ErrCell}, {api.Book{}, api.Dec{}, api.ErrLimit}, {good, api.Dec{M: 10}, api.ErrArg}, {good, api.Dec{E: 1}, api.ErrArg}, {good, api.Dec{M: math.MaxInt}, api.ErrArg}, {good, api.Dec{M: 1, E: math.MinInt}, api.ErrArg}} {
		l, err := calc.Values(c.b, c.now)
		v, again := calc.Cell(c.b, api.At{Sheet: -1}, c.now)
		w, m, asked, third := calc.With(c.b, c.now, []api.Memo{{}})
		if len(l) > 0 || err != c.err || !val.Same(v, api.Val{}) || again != c.err || len(w) > 0 || len(m) > 0 || len(asked) > 0 || third != c.err {
			t.Errorf("at %v: Values %v, error %d; Cell %v, error %d; With %v, %v, %v, error %d; want %d", c.now, l, err, v, again, w, m, asked, third, c.err)
		}
	}
}

// P15.1, P15.2: workbooks of all sorts, held against the chapter's words, with what was told of others ahead.
func TestMany(t *testing.T) {
	d := dice{n: 1}
	circles, spilled, blocked := 0, 0, 0
	var memos, all []api.Memo
	for range 900 {
		b := sheets(t, "")
		d.size, d.loops = 2+d.below(3), d.below(3) == 0
		for range 1 + d.below(9) {
			b, _ = book.Set(b, d.place(), d.input())
		}
		for range 1 + d.below(3) {
			memos = check(t, b, api.Dec{M: 1 + d.below(2)}, memos)
			if d.below(4) == 0 {
				all = append(all, memos...)
				check(t, b, api.Dec{M: 1 + d.below(2)}, all)
			}
			b, _ = book.Set(b, d.place(), d.input())
		}
		if len(all) > 200 {
			all = nil
		}
		l, _ := calc.Values(b, api.Dec{})
		for _, s := range l {
			input, _ := book.Get(b, s.At)
			switch {
			case s.V.Kind == api.Fault && s.V.Err == api.VCirc:
				circles++
			case s.V.Kind == api.Fault && s.V.Err == api.VSpill:
				blocked++
			case input == "":
				spilled++
			}
		}
	}
	if circles < 40 || spilled < 100 || blocked < 100 {
		t.Errorf("%d circles, %d places spilled into, %d arrays blocked", circles, spilled, blocked)
	}
}

// P15.2: what is asked again: where a text, a time or a place that is read is another one.
func TestWith(t *testing.T) {
	first := sheets(t, "A1: 2 | B1: =A1*3 | C1: =B1+1 | D1: =NOW() | A2: =IF(A1>5,A3,A4) | A3: 7 | A4: 8 | B2: ={1;2} | C2: =SUM(A3:A4) | A9: =\"NOW\" | B9: =LET(NOW,3,NOW)")
	_, m, asked, _ := calc.With(first, api.Dec{M: 1}, nil)
	if called(asked) != "B1 C1 D1 A2 B2 C2 A9 B9" {
		t.Errorf("asked at first: %s", called(asked))
	}
	for _, c := range []struct {
		change string
		now    int
		asked  string
	}{
		{"", 1, ""}, {"", 2, "D1"}, {"A1: 4", 1, "B1 C1 A2"}, {"A1: 6", 3, "B1 C1 D1 A2"}, {"A3: 9", 1, "C2"}, {"A4: 9", 1, "A2 C2"}, {"A1: 2 | B1: = a1 * 3", 1, ""}, {"B1: =3*A1", 1, "B1"}, {"B1: =A1*4", 1, "B1 C1"}, {"D9: =A1", 1, "D9"}, {"C2: ", 1, ""}, {"A4: ", 1, "A2 C2"}, {"B3: x", 1, ""}, {"A1: 2.0", 1, ""}, {"A1: '2", 1, "B1 A2"},
	} {
		b := first
		for _, s := range strings.Split(c.change, " | ") {
			place, input, found := strings.Cut(s, ": ")
			if found {
				b, _ = book.Set(b, at(b, place), input)
			}
		}
		_, _, asked, err := calc.With(b, api.Dec{M: c.now}, m)
		if called(asked) != c.asked || err != api.OK {
			t.Errorf("%s at %d: asked %s, error %d; want %s", c.change, c.now, called(asked), err, c.asked)
		}
		check(t, b, api.Dec{M: c.now}, m)
	}
	other := first
	other.Sheets = []api.Sheet{first.Sheets[0], {Name: "U"}}
	other.Names, other.Tables = nil, nil
	if _, _, asked, err := calc.With(other, api.Dec{M: 1}, m); called(asked) != "B1 C1 D1 A2 B2 C2 A9 B9" || err != api.OK {
		t.Errorf("with another sheet's name: asked %s, error %d", called(asked), err)
	}
}

// P15.2: a memo, field by field.
func TestMemo(t *testing.T) {
	b := sheets(t, "A1: 2 | A2: =SUM(A1:B1,A1)*T!A1+NOW()")
	_, m, _, _ := calc.With(b, api.Dec{M: 7}, nil)
	two := api.Shown{V: api.Val{Kind: api.Num, N: api.Dec{M: 2}}}
	want := api.Memo{
		At: api.At{Row: 1}, Text: "S\nT\nSUM(A1:B1,A1)*T!A1+NOW()", Timed: true, Now: api.Dec{M: 7}, Reads: []api.Shown{two, two},
		Areas: []api.Area{{Rows: 1, Cols: 2}, {Rows: 1, Cols: 1}, {Sheet: 1, Rows: 1, Cols: 1}}, V: api.Val{Kind: api.Num, N: api.Dec{M: 7}},
	}
	if !sameMemos(m, []api.Memo{want}) {
		t.Errorf("memos: %+v", m)
	}
	for i, change := range []func(m *api.Memo){
		func(m *api.Memo) {}, func(m *api.Memo) { m.At.Col = 1 }, func(m *api.Memo) { m.Text += " " }, func(m *api.Memo) { m.Timed = false }, func(m *api.Memo) { m.Now.M = 8 }, func(m *api.Memo) { m.Reads = m.Reads[:1] }, func(m *api.Memo) { m.Reads[1].At.Col = 1 }, func(m *api.Memo) { m.Reads[0].V.N.M = 3 }, func(m *api.Memo) { m.Reads = append(m.Reads, two) }, func(m *api.Memo) { m.Areas = m.Areas[:1] }, func(m *api.Memo) { m.Areas[2].Rows = 2 }, func(m *api.Memo) { m.Areas[0].Cols = 53 }, func(m *api.Memo) { m.Areas[2].Sheet = 8 }, func(m *api.Memo) { m.Areas[2].Rows = math.MaxInt }, func(m *api.Memo) { m.V = api.Val{Kind: api.Array, Rows: 2, Cols: 2} }, func(m *api.Memo) { m.V.Kind = 77 },
	} {
		_, m, _, _ := calc.With(b, api.Dec{M: 7}, nil)
		change(&m[0])
		l, told, asked, err := calc.With(b, api.Dec{M: 7}, m)
		if (len(asked) == 0) != (i == 0 || i == 10) || written(b, l) != "A1: 2 | A2: 7" || len(told) != 1 || err != api.OK {
			t.Errorf("change %d: %s, %v, asked %v, error %d", i, written(b, l), told, asked, err)
		}
	}
	first, second := m[0], m[0]
	first.V.N.M, second.V.N.M = 8, 9
	l, told, asked, _ := calc.With(b, api.Dec{M: 7}, []api.Memo{first, second})
	if written(b, l) != "A1: 2 | A2: 8" || len(told) != 1 || len(asked) > 0 {
		t.Errorf("of two memos: %s, %v, asked %v", written(b, l), told, asked)
	}
}

// P15.3, R3: the same is not asked again; literals that none reads make no difference; what is answered is new memory.
func TestWhatFollows(t *testing.T) {
	b := sheets(t, "A1: ={1,2;3,4} | C1: =A1:B2 | A4: =LAMBDA(x,x) | B4: =A1:B2+{1,2} | D9: 5")
	l, m, _, _ := calc.With(b, api.Dec{}, nil)
	before := written(b, l)
	again, told, asked, _ := calc.With(b, api.Dec{}, m)
	if len(asked) > 0 || !sameMemos(told, m) || !sameShown(again, l) {
		t.Errorf("asked again: %v", asked)
	}
	_, kept, _, _ := calc.With(b, api.Dec{}, nil)
	for i := range told {
		for j := range told[i].Reads {
			told[i].Reads[j].V.S = "y"
		}
		for j := range told[i].Areas {
			told[i].Areas[j].Row = 9
		}
		for j := range told[i].V.L {
			told[i].V.L[j].S = "y"
		}
		for j := range told[i].V.Code.Blocks {
			told[i].V.Code.Blocks[j] = nil
		}
	}
	if !sameMemos(m, kept) || !sameShown(again, l) {
		t.Error("what is answered shares memory with what was handed in")
	}
	for _, input := range []string{"x", "TRUE", ""} {
		other, _ := book.Set(b, at(b, "D9"), input)
		values, _, asked, _ := calc.With(other, api.Dec{}, kept)
		if len(asked) > 0 || !strings.HasPrefix(written(other, values), strings.TrimSuffix(before, " | D9: 5")) {
			t.Errorf("with %s in D9: %s, asked %v", input, written(other, values), asked)
		}
	}
}
