package val_test

import (
	"strings"
	"testing"

	"tabula/api"
	"tabula/dec"
	"tabula/val"
)

// P3.3: plain values as numbers, texts and truths.
func TestTold(t *testing.T) {
	bad := fault(3)
	for _, c := range []struct{ v, num, text, truth api.Val }{
		{api.Val{}, num(0, 0), text(""), truth(false)},
		{num(0, 0), num(0, 0), text("0"), truth(false)},
		{num(15, -1), num(15, -1), text("1.5"), truth(true)},
		{num(-1, -9), num(-1, -9), text("-0.000000001"), truth(true)},
		{num(api.MaxDigit, 9), num(api.MaxDigit, 9), text("999999999999999000000000"), truth(true)},
		{truth(true), num(1, 0), text("TRUE"), truth(true)},
		{truth(false), num(0, 0), text("FALSE"), truth(false)},
		{text(""), bad, text(""), bad},
		{text("1.50"), num(15, -1), text("1.50"), bad},
		{text("-0"), num(0, 0), text("-0"), bad},
		{text("1"), num(1, 0), text("1"), bad},
		{text("0"), num(0, 0), text("0"), bad},
		{text("007"), num(7, 0), text("007"), bad},
		{text(" 1"), bad, text(" 1"), bad},
		{text("+1"), bad, text("+1"), bad},
		{text("1e3"), bad, text("1e3"), bad},
		{text("1234567890123456"), bad, text("1234567890123456"), bad},
		{text("true"), bad, text("true"), truth(true)},
		{text("TRUE"), bad, text("TRUE"), truth(true)},
		{text("tRuE"), bad, text("tRuE"), truth(true)},
		{text("False"), bad, text("False"), truth(false)},
		{text("falſe"), bad, text("falſe"), bad},
		{text("true "), bad, text("true "), bad},
		{text("#N/A"), bad, text("#N/A"), bad},
		{function(0, 1, "x", num(1, 0)), bad, bad, bad},
	} {
		checkTold(t, c.v, c.num, c.text, c.truth)
	}
	for n := 1; n <= 9; n++ {
		checkTold(t, fault(n), fault(n), fault(n), fault(n))
	}
	for _, w := range wrongs() {
		checkTold(t, w, bad, bad, bad)
	}
}

func checkTold(t *testing.T, v, n, s, b api.Val) {
	t.Helper()
	if got := val.ToNum(v); !val.Same(got, n) {
		t.Errorf("ToNum(%+v): %+v; want %+v", v, got, n)
	}
	if got := val.ToText(v); !val.Same(got, s) {
		t.Errorf("ToText(%+v): %+v; want %+v", v, got, s)
	}
	if got := val.ToBool(v); !val.Same(got, b) {
		t.Errorf("ToBool(%+v): %+v; want %+v", v, got, b)
	}
}

// P3.3, P3.7: of arrays one by one; what is told is right, of its kind, and told again the same.
func TestToldOfAll(t *testing.T) {
	for name, do := range map[string]func(api.Val) api.Val{"ToNum": val.ToNum, "ToText": val.ToText, "ToBool": val.ToBool} {
		kind := map[string]int{"ToNum": api.Num, "ToText": api.Text, "ToBool": api.Truth}[name]
		for _, v := range flat(rights()) {
			got := do(v)
			if !val.Right(got) || !val.Same(do(got), got) {
				t.Errorf("%s of %+v: %+v; and of that: %+v", name, v, got, do(got))
			}
			if v.Kind != api.Array && got.Kind != kind && got.Kind != api.Fault {
				t.Errorf("%s of %+v: %+v", name, v, got)
			}
			if v.Kind == api.Array {
				want := array(v.Rows, v.Cols)
				for _, x := range v.L {
					want.L = append(want.L, do(x))
				}
				if !val.Same(got, want) {
					t.Errorf("%s of %+v: %+v; want %+v", name, v, got, want)
				}
			}
			fresh(t, name, v, do)
		}
	}
}

// P3.4: what is put in.
func TestRead(t *testing.T) {
	most := strings.Repeat("z", 200)
	for s, want := range map[string]api.Val{
		"": {}, "0": num(0, 0), "-0": num(0, 0), "12": num(12, 0), "1.50": num(15, -1), "-1200": num(-12, 2), "007": num(7, 0), strings.Repeat("0", 40): num(0, 0),
		"true": truth(true), "TRUE": truth(true), "TruE": truth(true), "false": truth(false), "FALSE": truth(false),
		"#null!": fault(1), "#NULL!": fault(1), "#DIV/0!": fault(2), "#div/0!": fault(2), "#Value!": fault(3), "#REF!": fault(4), "#ref!": fault(4), "#NAME?": fault(5), "#name?": fault(5), "#NUM!": fault(6), "#N/A": fault(7), "#n/a": fault(7), "#SPILL!": fault(8), "#spill!": fault(8), "#CIRC!": fault(9),
		"abc": text("abc"), "'12": text("12"), "'": text(""), "''": text("'"), "''12": text("'12"), "'=1": text("=1"), "'true": text("true"), "'#N/A": text("#N/A"), "' ": text(" "), " ": text(" "), " 1": text(" 1"), "1 ": text("1 "), " =1": text(" =1"), "+1": text("+1"), "1e3": text("1e3"), "1.": text("1."), ".5": text(".5"), "1,5": text("1,5"), "#NUM": text("#NUM"), "#N/A!": text("#N/A!"), "#": text("#"), "true ": text("true "), "falſe": text("falſe"), "é": text("é"), "\"a\"": text("\"a\""), "{1}": text("{1}"),
		"1234567890123456": text("1234567890123456"), "0.0000000001": text("0.0000000001"), strings.Repeat("0", 41): text(strings.Repeat("0", 41)), most: text(most), "'" + most: text(most), "'\U0010ffff": text("\U0010ffff"),
	} {
		if v, err := val.Read(s); !val.Same(v, want) || err != api.OK {
			t.Errorf("Read(%q): %+v, error %d; want %+v", s, v, err, want)
		}
	}
	for _, s := range []string{"=", "=1", "==", "=A1+1", "=\xff", most + "z", "'" + most + "z", strings.Repeat("é", 101), "\x00", "a\x1f", "'\n", "\t", "\x7f", "'\x7f", "\xff", "'\xff", "a\xc3", "\xed\xa0\x80", strings.Repeat("9", 5000), "true\x00"} {
		if v, err := val.Read(s); !val.Same(v, api.Val{}) || err != api.ErrVal {
			t.Errorf("Read(%q): %+v, error %d; want ErrVal", s, v, err)
		}
	}
}

// P3.5: how values are written.
func TestText(t *testing.T) {
	most := strings.Repeat("=", 200)
	for _, c := range []struct {
		v    api.Val
		want string
	}{
		{api.Val{}, ""}, {num(0, 0), "0"}, {num(-15, -1), "-1.5"}, {num(api.MaxDigit, 9), "999999999999999000000000"}, {truth(true), "TRUE"}, {truth(false), "FALSE"},
		{text(""), "'"}, {text("abc"), "abc"}, {text("12"), "'12"}, {text("1.50"), "'1.50"}, {text("-0"), "'-0"}, {text("1.5.0"), "1.5.0"}, {text("1234567890123456"), "1234567890123456"}, {text("true"), "'true"}, {text("FalsE"), "'FalsE"}, {text("#n/a"), "'#n/a"}, {text("#N/A "), "#N/A "}, {text("=1"), "'=1"}, {text(" =1"), " =1"}, {text("'"), "''"}, {text("'a"), "''a"}, {text("a'"), "a'"}, {text("\"a\""), "\"a\""}, {text(" "), " "}, {text(most), "'" + most}, {text("falſe"), "falſe"},
		{array(2, 2, num(1, 0), text("a"), truth(true), fault(7)), `{1,"a";TRUE,#N/A}`},
		{array(1, 1, api.Val{}), "{}"}, {array(1, 3, api.Val{}, api.Val{}, num(-2, 0)), "{,,-2}"}, {array(3, 1, api.Val{}, text(""), truth(false)), `{;"";FALSE}`},
		{array(1, 4, text(`a"b`), text(`"`), text("12"), text("'")), `{"a""b","""","12","'"}`},
		{array(2, 3, num(1, 0), num(2, 0), num(3, 0), num(4, 0), num(5, 0), num(6, 0)), "{1,2,3;4,5,6}"}, {array(3, 2, num(1, 0), num(2, 0), num(3, 0), num(4, 0), num(5, 0), num(6, 0)), "{1,2;3,4;5,6}"},
		{array(1, 400, many(400, text(strings.Repeat("\"", 200)))...), `{` + strings.Repeat(`,"`+strings.Repeat(`""`, 200)+`"`, 400)[1:] + `}`},
		{function(0, 1, "x;y", num(1, 0)), "LAMBDA"},
	} {
		if s, err := val.Text(c.v); s != c.want || err != api.OK {
			t.Errorf("Text(%+v): %q, error %d; want %q", c.v, s, err, c.want)
		}
	}
	for n := 1; n <= 9; n++ {
		if s, err := val.Text(fault(n)); s != names[n] || err != api.OK {
			t.Errorf("Text of the error %d: %q, error %d", n, s, err)
		}
	}
	for _, w := range wrongs() {
		if s, err := val.Text(w); s != "" || err != api.ErrVal {
			t.Errorf("Text(%+v): %q, error %d; want ErrVal", w, s, err)
		}
	}
}

// P3.7: what is written of a plain value is read as that value, and a number's text as the number.
func TestReadBack(t *testing.T) {
	for _, v := range flat(plains()) {
		s, _ := val.Text(v)
		if back, err := val.Read(s); !val.Same(back, v) || err != api.OK {
			t.Errorf("Read(%q): %+v, error %d; want %+v", s, back, err, v)
		}
		if v.Kind == api.Num {
			if back := val.ToNum(val.ToText(v)); !val.Same(back, v) {
				t.Errorf("ToNum of ToText of %+v: %+v", v, back)
			}
			if n, err := dec.Read(s); n != v.N || err != api.OK {
				t.Errorf("dec.Read(%q): %v, error %d", s, n, err)
			}
		}
	}
	parts := []string{"'", "=", "1", "0", ".", "-", "true", "FALSE", "#N/A", "#", " ", "a", "é", "\"", "!"}
	for a := range parts {
		for b := range parts {
			for c := range parts {
				v := text(parts[a] + parts[b] + parts[c])
				s, _ := val.Text(v)
				if back, err := val.Read(s); !val.Same(back, v) || err != api.OK {
					t.Errorf("Read(%q): %+v, error %d; want %+v", s, back, err, v)
				}
			}
		}
	}
}
