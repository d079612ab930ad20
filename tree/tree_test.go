package tree_test

import (
	"strings"
	"testing"

	"tabula/api"
	"tabula/lex"
	"tabula/tree"
)

// P5.1: which trees are right.
func TestRight(t *testing.T) {
	for s, n := range rights() {
		if !tree.Right(n) {
			t.Errorf("Right of %s is false", s)
		}
		n.Kids = append(make([]api.Node, 0, len(n.Kids)+2), n.Kids...)
		if !tree.Right(n) {
			t.Errorf("Right of %s with room is false", s)
		}
	}
	for _, n := range wrongs() {
		if tree.Right(n) {
			t.Errorf("Right of %s is true", spelt(n))
		}
	}
	wide := num(1)
	for range 60000 {
		wide = ahead("-", wide)
	}
	if tree.Right(wide) || tree.Right(call("F", many(100000, wide)...)) || tree.Right(fun(strings.Repeat("x,", 100000), num(1))) {
		t.Error("Right of a tree far beyond the limits is true")
	}
	if !tree.Right(call("F", many(19, call("G", many(9, num(1))...))...)) || tree.Right(call("F", many(20, call("G", many(9, num(1))...))...)) {
		t.Error("Right of trees with 191 and 201 nodes")
	}
	var names []string
	for a := range 26 {
		for b := range 26 {
			names = append(names, "x_"+string(rune('a'+a))+string(rune('a'+b)))
		}
	}
	if !tree.Right(fun(strings.Join(names, ","), num(1))) || tree.Right(fun(strings.Join(names, ",")+",X_AA", num(1))) {
		t.Error("Right of a function with many names")
	}
}

// P5.1: Same goes through all fields, and all kids.
func TestSame(t *testing.T) {
	var all []api.Node
	for _, n := range rights() {
		all = append(all, n)
	}
	all = append(all, wrongs()...)
	for i, n := range all {
		x := n
		x.Kids = append(make([]api.Node, 0, len(n.Kids)+2), n.Kids...)
		if !tree.Same(n, x) || !tree.Same(x, n) {
			t.Errorf("%s is not the same as itself", spelt(n))
		}
		for _, x := range changed(n) {
			for _, pair := range [][2]api.Node{{n, x}, {x, n}, {call("F", num(1), n), call("F", num(1), x)}, {apply(apply(n)), apply(apply(x))}} {
				if tree.Same(pair[0], pair[1]) {
					t.Errorf("Same of %s and %s is true", spelt(pair[0]), spelt(pair[1]))
				}
			}
		}
		x = all[(i*7+3)%len(all)]
		if tree.Same(n, x) != (spelt(n) == spelt(x)) {
			t.Errorf("Same of %s and %s", spelt(n), spelt(x))
		}
	}
	if tree.Same(call("F", num(1), num(2)), call("F", num(2), num(1))) || tree.Same(call("F", num(1)), call("F", num(1), num(1))) || !tree.Same(api.Node{}, api.Node{Kids: []api.Node{}}) {
		t.Error("Same of kids")
	}
}

// P5.2: how trees are written.
func TestPrint(t *testing.T) {
	for want, n := range rights() {
		if s, err := tree.Print(n); s != want || err != api.OK {
			t.Errorf("Print of %s: %q, error %d; want %q", spelt(n), s, err, want)
		}
	}
	for _, n := range wrongs() {
		if s, err := tree.Print(n); s != "" || err != api.ErrTree {
			t.Errorf("Print of %s: %q, error %d; want ErrTree", spelt(n), s, err)
		}
	}
}

// P5.5: what is printed of a right tree is read as that tree; parentheses around it change nothing.
func TestReadBack(t *testing.T) {
	check := func(n api.Node) bool {
		s, err := tree.Print(n)
		if err != api.OK {
			t.Fatalf("Print of %s: error %d", spelt(n), err)
		}
		if len(s) > 196 {
			return false
		}
		for _, s := range []string{s, "(" + s + ")", " ( ( " + s} {
			s += strings.Repeat(")", 2*strings.Count(s[:min(5, len(s))], " ( ("))
			back, at, err := tree.Read(s)
			if !tree.Same(back, n) || at != 0 || err != api.OK {
				t.Errorf("Read(%q): %s, %d, error %d; want %s", s, spelt(back), at, err, spelt(n))
			}
			if !tree.Right(back) && err == api.OK {
				t.Errorf("Read(%q) is not right", s)
			}
		}
		return true
	}
	for _, n := range rights() {
		check(n)
	}
	d := dice(1)
	read := 0
	for range 30000 {
		n := d.tree(2 + d.below(4))
		if tree.Right(n) && check(n) {
			read++
		}
	}
	if read < 20000 {
		t.Errorf("only %d trees were read", read)
	}
}

// P5.2, P5.3: what is handed in is left as it is, and what comes out is new memory.
func TestMemory(t *testing.T) {
	for s, n := range rights() {
		before := spelt(n)
		tree.Right(n)
		tree.Same(n, n)
		tree.Print(n)
		if spelt(n) != before {
			t.Errorf("%s has been changed", s)
		}
		l, _, err := lex.Tokens(s)
		if err != api.OK {
			continue
		}
		l = append(make([]api.Tok, 0, len(l)+2), l...)
		a, _, _ := tree.Parse(l)
		b, _, _ := tree.Parse(l)
		want := spelt(b)
		for i := range l[:cap(l)] {
			l[:cap(l)][i] = api.Tok{}
		}
		scratch(a)
		if spelt(b) != want {
			t.Errorf("what is parsed of %s shares memory", s)
		}
	}
	n, _, _ := tree.Read("F(G(1,2),G(3,4),G(5,6))")
	want := spelt(n)
	for _, kid := range n.Kids {
		_ = append(kid.Kids, api.Node{})
	}
	_ = append(n.Kids[0].Kids, num(9), num(9), num(9))
	if spelt(n) != want {
		t.Errorf("lists of one tree share room")
	}
}

func scratch(n api.Node) {
	for i := range n.Kids {
		scratch(n.Kids[i])
	}
	kids := n.Kids[:cap(n.Kids)]
	for i := range kids {
		kids[i] = api.Node{Kind: 99}
	}
}
