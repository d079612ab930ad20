package right_test

import (
	"math"
	"strings"
	"testing"

	"tabula/api"
	"tabula/right"
	"tabula/tree"
)

// Places and areas are right within sheets, whatever sheets there are.
func TestPlaces(t *testing.T) {
	for at, want := range map[api.At]bool{{}: true, {Sheet: 7, Row: 199, Col: 51}: true, {Sheet: 8}: false, {Row: 200}: false, {Col: 52}: false, {Sheet: -1}: false, {Row: -1}: false, {Col: -1}: false, {Sheet: math.MaxInt}: false, {Row: math.MinInt}: false} {
		if right.Place(at) != want {
			t.Errorf("Place(%+v) is %v", at, !want)
		}
		if a := (api.Area{Sheet: at.Sheet, Row: at.Row, Col: at.Col, Rows: 1, Cols: 1}); right.Area(a) != want {
			t.Errorf("Area(%+v) is %v", a, !want)
		}
	}
	for a, want := range map[api.Area]bool{{Rows: 200, Cols: 52}: true, {Row: 1, Rows: 200, Cols: 1}: false, {Rows: 0, Cols: 1}: false, {Rows: 1}: false, {Rows: math.MaxInt, Cols: math.MaxInt}: false} {
		if right.Area(a) != want {
			t.Errorf("Area(%+v) is %v", a, !want)
		}
	}
}

// Texts that are right as what they are to be.
func TestTexts(t *testing.T) {
	long := strings.Repeat("x", 31)
	for _, c := range []struct {
		what string
		is   func(string) bool
		good []string
		bad  []string
	}{
		{"Sheet", right.Sheet, []string{"S", "It's", "é", long[1:], " "}, []string{"", long, "\xff", "\n"}},
		{"Name", right.Name, []string{"x", "_", "a.1", "T", long[1:], "AZ201"}, []string{"", long, "A1", "true", "1a", ".a", "a b", "é"}},
		{"Formula", right.Formula, []string{"=1", "= x ", "=T[a]", "=\"" + strings.Repeat("x", 197) + "\""}, []string{"", "1", "=", "=1+", " =1", "=\"" + strings.Repeat("x", 198) + "\""}},
		{"Input", right.Input, []string{"1", "=1", "x", "'", " =1", strings.Repeat("x", 200)}, []string{"", "=", "=1+", "\x00", strings.Repeat("x", 201), "'" + strings.Repeat("x", 200)}},
	} {
		for _, s := range c.good {
			if !c.is(s) {
				t.Errorf("%s(%q) is false", c.what, s)
			}
		}
		for _, s := range c.bad {
			if c.is(s) {
				t.Errorf("%s(%q) is true", c.what, s)
			}
		}
	}
}

// A right formula has a tree, and no other one has.
func TestTree(t *testing.T) {
	want, _, _ := tree.Read("1+A1")
	if n, ok := right.Tree("=1+A1"); !tree.Same(n, want) || !ok {
		t.Errorf("Tree: %+v, %v", n, ok)
	}
	for _, s := range []string{"1+A1", "=1+", "", "=" + strings.Repeat(" ", 200) + "1"} {
		if n, ok := right.Tree(s); !tree.Same(n, api.Node{}) || ok {
			t.Errorf("Tree of %q: %+v, %v", s, n, ok)
		}
	}
}

// Tables and rules are right by themselves.
func TestThings(t *testing.T) {
	one := api.Table{Name: "T", Sheet: 7, Row: 198, Col: 50, Rows: 1, Cols: []string{"a", "B c_9"}}
	if !right.Table(one) {
		t.Error("Table is false")
	}
	for i, change := range []func(x *api.Table){func(x *api.Table) { x.Name = "A1" }, func(x *api.Table) { x.Sheet = 8 }, func(x *api.Table) { x.Row = 199 }, func(x *api.Table) { x.Col = 51 }, func(x *api.Table) { x.Rows = 0 }, func(x *api.Table) { x.Rows = math.MaxInt }, func(x *api.Table) { x.Cols = nil }, func(x *api.Table) { x.Cols = []string{"a", "A"} }, func(x *api.Table) { x.Cols = []string{" a"} }, func(x *api.Table) { x.Cols = []string{"a", ""} }} {
		x := one
		change(&x)
		if right.Table(x) {
			t.Errorf("Table is true behind change %d", i)
		}
	}
	for r, want := range map[api.Rule]bool{
		{Area: api.Area{Rows: 1, Cols: 1}, Formula: "=1", Style: 1}: true, {Area: api.Area{Rows: 1, Cols: 1}, Formula: "=1", Style: 99}: true, {Area: api.Area{Rows: 1, Cols: 1}, Formula: "=1", Must: true}: true,
		{Area: api.Area{Rows: 1, Cols: 1}, Formula: "=1", Style: 100}: false, {Area: api.Area{Rows: 1, Cols: 1}, Formula: "=1"}: false, {Area: api.Area{Rows: 1, Cols: 1}, Formula: "=1", Style: 1, Must: true}: false, {Formula: "=1", Style: 1}: false, {Area: api.Area{Rows: 1, Cols: 1}, Formula: "1", Style: 1}: false,
	} {
		if right.Rule(r) != want {
			t.Errorf("Rule(%+v) is %v", r, !want)
		}
	}
}
