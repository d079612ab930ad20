package mach_test

// What formulas mean, told by their trees in place of code.

import (
	"slices"
	"strings"
	"testing"

	"tabula/api"
	"tabula/code"
	"tabula/dec"
	"tabula/fun"
	"tabula/mach"
	"tabula/ref"
	"tabula/tree"
	"tabula/val"
)

// meaning is a value, or a function: its tree, and the names around it.
type meaning struct {
	v    api.Val
	f    *api.Node
	env  []bound
	self string
}

// bound is a name with what it stands for.
type bound struct {
	name string
	m    *meaning
}

// walker goes through a tree with what cells show; it is lost where calls go too far.
type walker struct {
	frame api.Frame
	areas []api.Area
	calls int
	lost  bool
}

func plain(v api.Val) *meaning { return &meaning{v: v} }

func (m *meaning) val() api.Val {
	if m.f != nil {
		return api.Val{Kind: api.Func, Code: api.Code{Blocks: [][]api.Ins{nil}, Params: []string{""}}}
	}
	return m.v
}

func found(env []bound, name string) *meaning {
	for i := len(env) - 1; i >= 0; i-- {
		if strings.EqualFold(env[i].name, name) {
			return env[i].m
		}
	}
	return nil
}

func (w *walker) vals(kids []api.Node, env []bound) []*meaning {
	var list []*meaning
	for _, kid := range kids {
		list = append(list, w.walk(kid, env))
	}
	return list
}

func (w *walker) walk(n api.Node, env []bound) *meaning {
	switch n.Kind {
	case api.NNum:
		return plain(api.Val{Kind: api.Num, N: n.N})
	case api.NText:
		return plain(text(n.S))
	case api.NTruth:
		return plain(truth(n.B))
	case api.NFault:
		return plain(fault(n.Err))
	case api.NRef:
		return plain(w.read(n.Ref, n.Ref))
	case api.NRange:
		return plain(w.read(n.Ref, n.To))
	case api.NName:
		if m := found(env, n.S); m != nil {
			return m
		}
		return plain(fault(api.VName))
	case api.NCol:
		return plain(fault(api.VName))
	case api.NFunc:
		return &meaning{f: &n, env: env}
	case api.NApply:
		l := w.vals(n.Kids, env)
		return w.apply(l[0], l[1:])
	case api.NLet:
		names := strings.Split(n.S, ",")
		inner := slices.Clone(env)
		for i, name := range names {
			m := w.walk(n.Kids[i], inner)
			if n.Kids[i].Kind == api.NFunc {
				m.self = name
			}
			inner = append(slices.Clone(inner), bound{name, m})
		}
		return w.walk(n.Kids[len(names)], inner)
	case api.NCall:
		return w.call(n, env)
	}
	var l []api.Val
	for _, m := range w.vals(n.Kids, env) {
		l = append(l, m.val())
	}
	if n.Kind == api.NArray {
		return plain(array(n.Rows, len(l)/n.Rows, l...))
	}
	return plain(byPlaces(l, func(l []api.Val) api.Val { return operated(n, l) }))
}

func (w *walker) call(n api.Node, env []bound) *meaning {
	if m := found(env, n.S); m != nil {
		return w.apply(m, w.vals(n.Kids, env))
	}
	if n.S == "IF" && (len(n.Kids) == 2 || len(n.Kids) == 3) {
		b := val.ToBool(w.walk(n.Kids[0], env).val())
		switch {
		case b.Kind == api.Fault:
			return plain(b)
		case b.Kind == api.Array:
			return plain(fault(api.VValue))
		case b.B:
			return w.walk(n.Kids[1], env)
		case len(n.Kids) == 3:
			return w.walk(n.Kids[2], env)
		}
		return plain(truth(false))
	}
	var l []api.Val
	for _, m := range w.vals(n.Kids, env) {
		l = append(l, m.val())
	}
	return plain(fun.Call(n.S, l, w.frame.Now))
}

func (w *walker) apply(m *meaning, l []*meaning) *meaning {
	if m.f == nil {
		if m.v.Kind == api.Fault {
			return m
		}
		return plain(fault(api.VValue))
	}
	var names []string
	if m.f.S != "" {
		names = strings.Split(m.f.S, ",")
	}
	if len(names) != len(l) {
		return plain(fault(api.VValue))
	}
	env := slices.Clone(m.env)
	if m.self != "" {
		env = append(env, bound{m.self, m})
	}
	for i, name := range names {
		env = append(env, bound{name, l[i]})
	}
	w.calls++
	defer func() { w.calls-- }()
	if w.calls > 25 || w.lost {
		w.lost = true
		return plain(fault(api.VNum))
	}
	return w.walk(m.f.Kids[0], env)
}

func (w *walker) read(from api.Ref, to api.Ref) api.Val {
	sheet := w.frame.Sheet
	if from.Sheet != "" {
		sheet = slices.IndexFunc(w.frame.Sheets, func(s string) bool { return strings.EqualFold(s, from.Sheet) })
	}
	if sheet < 0 || from.Bad || to.Bad {
		return fault(api.VRef)
	}
	a, _ := ref.Area(from, to, sheet)
	if !slices.Contains(w.areas, a) {
		w.areas = append(w.areas, a)
	}
	var l []api.Val
	for i := range a.Rows * a.Cols {
		v := api.Val{}
		for _, s := range w.frame.Vals {
			if s.At == (api.At{Sheet: sheet, Row: a.Row + i/a.Cols, Col: a.Col + i%a.Cols}) {
				v = s.V
			}
		}
		l = append(l, v)
	}
	if len(l) == 1 {
		return l[0]
	}
	if len(l) > 400 {
		return fault(api.VNum)
	}
	return array(a.Rows, a.Cols, l...)
}

// byPlaces does with arrays one by one what is done with plain values.
func byPlaces(l []api.Val, do func([]api.Val) api.Val) api.Val {
	rows, cols := 0, 0
	for _, v := range l {
		if v.Kind == api.Array {
			rows, cols = max(rows, v.Rows), max(cols, v.Cols)
		}
	}
	if rows == 0 {
		return do(l)
	}
	if rows*cols > 400 {
		return fault(api.VNum)
	}
	var list []api.Val
	for i := range rows * cols {
		var there []api.Val
		for _, v := range l {
			there = append(there, val.Get(v, i/cols, i%cols))
		}
		list = append(list, do(there))
	}
	return array(rows, cols, list...)
}

func operated(n api.Node, l []api.Val) api.Val {
	for i, v := range l {
		if v.Kind == api.Func {
			l[i] = fault(api.VValue)
		}
	}
	for _, v := range l {
		if v.Kind == api.Fault {
			return v
		}
	}
	if n.Kind == api.NOp && strings.Trim(n.S, "<=>") == "" {
		for i, v := range l {
			if other := l[1-i]; v.Kind == api.Empty {
				l[i] = map[int]api.Val{api.Num: num(0, 0), api.Text: text(""), api.Truth: truth(false), api.Empty: {}}[other.Kind]
			}
		}
		stand := val.Compare(l[0], l[1])
		return truth(strings.ContainsRune(n.S, rune("<=>"[stand+1])))
	}
	if n.S == "&" {
		s := val.ToText(l[0]).S + val.ToText(l[1]).S
		if len(s) > 200 {
			return fault(api.VValue)
		}
		return text(s)
	}
	names := map[string]string{"^": "POWER"}
	if name := names[n.S]; name != "" {
		return fun.Call(name, l, api.Dec{})
	}
	for i, v := range l {
		l[i] = val.ToNum(v)
		if l[i].Kind == api.Fault {
			return l[i]
		}
	}
	if n.Kind == api.NAhead {
		l = append([]api.Val{num(0, 0)}, l...)
	}
	if n.Kind == api.NBack {
		return decimal(dec.Mul(l[0].N, api.Dec{M: 1, E: -2}))
	}
	do := map[string]func(a, b api.Dec) (api.Dec, api.Errno){"+": dec.Add, "-": dec.Sub, "*": dec.Mul, "/": dec.Div}[n.S]
	return decimal(do(l[0].N, l[1].N))
}

func decimal(d api.Dec, err api.Errno) api.Val {
	switch err {
	case api.OK:
		return api.Val{Kind: api.Num, N: d}
	case api.ErrZero:
		return fault(api.VDiv)
	}
	return fault(api.VNum)
}

// formula is one that is at most so deep, of words that often fit.
func (d *dice) formula(deep int) string {
	leaves := strings.Fields(`A1 B1 C1 A2 B2 Z9 Third!A1 1 2 0.5 "x" "2" TRUE #N/A A1:B2 A1:A3 {1,2} {1;2;"a"} x y x y f g #REF! None!A1`)
	if deep == 0 || d.below(5) == 0 {
		return leaves[d.below(len(leaves))]
	}
	kid := func() string { return d.formula(deep - 1) }
	ops := strings.Fields("= <> < <= > >= & + - * / ^")
	names := []string{"x", "y", "f", "g", "X", "sum"}
	switch d.below(11) {
	case 0, 1, 2:
		return "(" + kid() + ")" + ops[d.below(12)] + "(" + kid() + ")"
	case 3:
		return "-(" + kid() + ")"
	case 4:
		return "(" + kid() + ")%"
	case 5:
		return "IF(" + kid() + "," + kid() + "," + kid() + ")"
	case 6:
		return []string{"SUM", "IFERROR", "COUNT", "CONCAT"}[d.below(4)] + "(" + kid() + "," + kid() + ")"
	case 7:
		return "LET(" + names[d.below(2)] + "," + kid() + "," + names[2+d.below(2)] + ",LAMBDA(" + names[d.below(6)] + "," + kid() + ")," + kid() + ")"
	case 8:
		return "LAMBDA(" + names[d.below(4)] + "," + kid() + ")(" + kid() + ")"
	case 9:
		return names[2+d.below(4)] + "(" + kid() + ")"
	}
	return "LET(" + names[d.below(6)] + "," + kid() + "," + kid() + ")"
}

// P8.1, P8.2: code does what the tree means, and reads what that reads.
func TestMeaning(t *testing.T) {
	f := frame(t, "A1:1|B1:2|C1:'x|A2:true|B2:-1.5|C3:#N/A|Third!A1:30")
	d := dice(1)
	done, calls := 0, 0
	for range 50000 {
		s := d.formula(1 + d.below(4))
		n, _, err := tree.Read(s)
		if err != api.OK {
			continue
		}
		c, err := code.Compile(n)
		if err != api.OK {
			continue
		}
		w := walker{frame: f}
		want := w.walk(n, nil).val()
		if w.lost {
			continue
		}
		got, areas, err := mach.Run(c, f)
		if err != api.OK || got.Kind != want.Kind || got.Kind != api.Func && !val.Same(got, want) || !slices.Equal(areas, w.areas) {
			t.Fatalf("%s: %s, error %d, read %q; want %s, read %q", s, told(got), err, places(areas), told(want), places(w.areas))
		}
		if !val.Right(got) {
			t.Fatalf("%s: %+v is not right", s, got)
		}
		done++
		if strings.Contains(s, "LAMBDA") {
			calls++
		}
	}
	if done < 20000 || calls < 2000 {
		t.Errorf("only %d formulas were done, %d with functions", done, calls)
	}
}

// P8.2: what is told hangs on what the areas show that are told, alone.
func TestReadsAlone(t *testing.T) {
	f := frame(t, "A1:1|B1:2|C1:'x|A2:true|B2:-1.5|C3:#N/A|Third!A1:30|Third!C9:4")
	d := dice(2)
	for range 20000 {
		s := d.formula(1 + d.below(4))
		n, _, err := tree.Read(s)
		if err != api.OK {
			continue
		}
		c, _ := code.Compile(n)
		v, areas, err := mach.Run(c, f)
		if err != api.OK {
			continue
		}
		g := f
		g.Vals = nil
		for _, s := range f.Vals {
			read := slices.ContainsFunc(areas, func(a api.Area) bool { return ref.Has(a, s.At) })
			switch {
			case read:
				g.Vals = append(g.Vals, s)
			case d.below(2) == 0:
				g.Vals = append(g.Vals, api.Shown{At: s.At, V: num(d.below(9), 0)})
			}
		}
		again, same, err := mach.Run(c, g)
		if err != api.OK || !val.Same(v, again) || !slices.Equal(areas, same) {
			t.Fatalf("%s: %s, read %q; with other cells %s, read %q", s, told(v), places(areas), told(again), places(same))
		}
	}
}

// P8.2: a LET is its body with its values, and a LAMBDA that is called at once is a LET.
func TestLet(t *testing.T) {
	f := frame(t, "A1:1|B1:2|C1:'x|A2:true|B2:-1.5|C3:#N/A|Third!A1:30")
	d := dice(3)
	for range 5000 {
		value, body := []string{"A1", "B1:B2", "5", `"x"`, "#N/A", "{1,2;3,4}", "LAMBDA(q,q+1)"}[d.below(7)], []string{"z+z", "SUM(z,A1,z)", "IF(z,z,1)", "z(2)", "{1,2}&z", "LET(x,z,x*2)", "LAMBDA(z)()", "z", "IFERROR(z,z)+C1"}[d.below(9)]
		formulas := []string{"LET(z," + value + "," + body + ")", "LAMBDA(z," + body + ")(" + value + ")"}
		if value != "LAMBDA(q,q+1)" || body != "z(2)" && body != "z" {
			formulas = append(formulas, strings.ReplaceAll(body, "z", "("+value+")"))
		}
		var want api.Val
		for i, s := range formulas {
			v, _, err := mach.Run(compiled(t, s), f)
			if i == 0 {
				want = v
			}
			if err != api.OK || v.Kind != want.Kind || v.Kind != api.Func && !val.Same(v, want) {
				t.Fatalf("%s: %s, error %d; but %s: %s", s, told(v), err, formulas[0], told(want))
			}
		}
	}
}

// P8.1: what is handed in is left as it is, and what comes out is new memory.
func TestMemory(t *testing.T) {
	for _, s := range []string{"A1", "A1:B2", "B2", "LET(a,A1:B2,f,LAMBDA(x,a),g,LAMBDA(f),g)", "LAMBDA(x,x)", "{1,2}", "CHOOSE(1,A1:B2)", "CHOOSE(1,LAMBDA(x))", "LAMBDA(x,y,LAMBDA(x))(A1:B2,LAMBDA(1))", "A1+B1+A2:B2+Third!A1"} {
		f := frame(t, "A1:1|B1:2|A2:'x|Third!A1:30")
		f.Vals[0].V.L = append(make([]api.Val, 0, 3), f.Vals[0].V.L...)
		f.Vals = append(make([]api.Shown, 0, 9), f.Vals...)
		c := compiled(t, s)
		v, areas, _ := mach.Run(c, f)
		again, sameAreas, _ := mach.Run(c, f)
		want, reads := told(again), places(sameAreas)
		if !code.Same(c, compiled(t, s)) || f.Vals[0].V.N.M != 1 || len(f.Vals) != 4 || f.Vals[:5][4].V.Kind != 0 {
			t.Errorf("%s: what was handed in is another one", s)
		}
		scratch(v)
		for i := range areas[:cap(areas)] {
			areas[:cap(areas)][i] = api.Area{}
		}
		if !code.Same(c, compiled(t, s)) || told(again) != want || places(sameAreas) != reads || !val.Right(again) {
			t.Errorf("%s: two answers share memory, or one with what was handed in", s)
		}
		for _, block := range c.Blocks {
			clear(block)
		}
		clear(c.Params)
		clear(f.Vals[:cap(f.Vals)])
		if told(again) != want || again.Kind == api.Func && !code.Same(again.Code, compiled(t, s)) {
			t.Errorf("%s: the answer shares memory with what was handed in", s)
		}
	}
}

// scratch writes into all that a value's lists can reach.
func scratch(v api.Val) {
	for i := range v.L {
		scratch(v.L[i])
	}
	for _, block := range v.Code.Blocks {
		clear(block[:cap(block)])
	}
	clear(v.Code.Params[:cap(v.Code.Params)])
	clear(v.Code.Blocks[:cap(v.Code.Blocks)])
	clear(v.L[:cap(v.L)])
}
