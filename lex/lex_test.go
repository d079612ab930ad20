package lex_test

import (
	"slices"
	"strings"
	"testing"

	"tabula/api"
	"tabula/lex"
)

var kinds = map[string]int{"num": api.TkNum, "text": api.TkText, "truth": api.TkTruth, "fault": api.TkFault, "ref": api.TkRef, "name": api.TkName, "call": api.TkCall, "sign": api.TkSign, "col": api.TkCol}

// list are pieces, each written as its kind, its place, and its text.
func list(pieces ...any) []api.Tok {
	var l []api.Tok
	for i := 0; i < len(pieces); i += 3 {
		l = append(l, api.Tok{Kind: kinds[pieces[i].(string)], At: pieces[i+1].(int), S: pieces[i+2].(string)})
	}
	return l
}

// P4.1: names.
func TestIsName(t *testing.T) {
	for _, s := range []string{"a", "_", "_1", "x.y", "a.", "BA1", "A0", "A01", "A201", "A1.5", "AAA1", "rate", "TRUE1", "TRUE.", "_TRUE", "R1C1", strings.Repeat("n", 30)} {
		if !lex.IsName(s) {
			t.Errorf("IsName(%q) is false", s)
		}
	}
	for _, s := range []string{"", "A1", "a1", "az200", "1", "1a", ".", ".a", "$", "$a", "a$", "$A$1", "A$1", "TRUE", "true", "TrUe", "FALSE", "fAlse", "a b", " a", "a ", "a!", "S!A1", "a-b", "a(", "a[", "é", "aé", "a\xff", "a\x00", "#REF!", "'", "a'", strings.Repeat("n", 31), strings.Repeat("n", 5000)} {
		if lex.IsName(s) {
			t.Errorf("IsName(%q) is true", s)
		}
	}
	for a := range 256 {
		for b := range 256 {
			s := string([]byte{byte(a), byte(b)})
			if lex.IsName(s) != isName(s) {
				t.Errorf("IsName(%q) is %v", s, !isName(s))
			}
		}
	}
}

func checkTokens(t *testing.T, s string, want []api.Tok) {
	t.Helper()
	got, at, err := lex.Tokens(s)
	if !slices.Equal(got, want) || at != 0 || err != api.OK {
		t.Errorf("Tokens(%q): %v, %d, error %d; want %v", s, got, at, err, want)
	}
}

func checkWrong(t *testing.T, s string, want int) {
	t.Helper()
	if got, at, err := lex.Tokens(s); len(got) > 0 || at != want || err != api.ErrLex {
		t.Errorf("Tokens(%q): %v, %d, error %d; want ErrLex at %d", s, got, at, err, want)
	}
}

// P4.2: pieces of each kind.
func TestTokens(t *testing.T) {
	checkTokens(t, "", nil)
	checkTokens(t, "   ", nil)
	checkTokens(t, "SUM($A1:b2)*-1.50", list("call", 0, "SUM", "sign", 3, "(", "ref", 4, "$A1", "sign", 7, ":", "ref", 8, "b2", "sign", 10, ")", "sign", 11, "*", "sign", 12, "-", "num", 13, "1.50"))
	checkTokens(t, "'My Sheet'!A1&T[Price]", list("ref", 0, "'My Sheet'!A1", "sign", 13, "&", "col", 14, "T[Price]"))
	checkTokens(t, `A999<>"a""b"`, list("name", 0, "A999", "sign", 4, "<>", "text", 6, `a"b`))
	// Numbers.
	checkTokens(t, "007", list("num", 0, "007"))
	checkTokens(t, " 1 2", list("num", 1, "1", "num", 3, "2"))
	checkTokens(t, "1a", list("num", 0, "1", "name", 1, "a"))
	checkTokens(t, "1.5e3x", list("num", 0, "1.5", "name", 3, "e3x"))
	checkTokens(t, "1.5e3", list("num", 0, "1.5", "ref", 3, "e3"))
	checkTokens(t, "12A1", list("num", 0, "12", "ref", 2, "A1"))
	checkTokens(t, "1$A$1", list("num", 0, "1", "ref", 1, "$A$1"))
	checkTokens(t, strings.Repeat("0", 40), list("num", 0, strings.Repeat("0", 40)))
	checkWrong(t, "1.", 1)
	checkWrong(t, "1.a", 1)
	checkWrong(t, "1.5.2", 3)
	checkWrong(t, ".5", 0)
	checkWrong(t, "1 .5", 2)
	checkWrong(t, "+0.0000000001", 1)
	checkWrong(t, "2+1234567890123456", 2)
	checkWrong(t, strings.Repeat("0", 41), 0)
	// Texts.
	checkTokens(t, `""`, list("text", 0, ""))
	checkTokens(t, `""""`, list("text", 0, `"`))
	checkTokens(t, `"a b"" ""c" "d"`, list("text", 0, `a b" "c`, "text", 12, "d"))
	checkTokens(t, `"é='"`, list("text", 0, "é='"))
	checkWrong(t, `"`, 0)
	checkWrong(t, `1+"a`, 2)
	checkWrong(t, `"a""`, 0)
	checkWrong(t, `"""`, 0)
	checkWrong(t, "\"a\x00\"", 0)
	checkWrong(t, "\"\x7f\"", 0)
	checkWrong(t, "\"\x1f\"", 0)
	checkWrong(t, "1&\"\xff\"", 2)
	checkWrong(t, "\"\xed\xa0\x80\"", 0)
	// Errors.
	for _, s := range []string{"#NULL!", "#DIV/0!", "#VALUE!", "#NAME?", "#NUM!", "#N/A", "#SPILL!", "#CIRC!"} {
		checkTokens(t, s, list("fault", 0, s))
		checkTokens(t, strings.ToLower(s)+s, list("fault", 0, s, "fault", len(s), s))
		checkWrong(t, s[:len(s)-1], 0)
	}
	checkTokens(t, "#REF!", list("ref", 0, "#REF!"))
	checkTokens(t, " #ref!#Ref!", list("ref", 1, "#REF!", "ref", 6, "#REF!"))
	checkTokens(t, "#n/A1", list("fault", 0, "#N/A", "num", 4, "1"))
	checkWrong(t, "#", 0)
	checkWrong(t, "1 #REF", 2)
	checkWrong(t, "##N/A", 0)
	checkWrong(t, "#ſPILL!", 0)
}

// P4.2: pieces that words and apostrophes begin.
func TestWords(t *testing.T) {
	long, most := strings.Repeat("n", 31), strings.Repeat("n", 30)
	// References.
	checkTokens(t, "''''!a1'a!b'!$A$1", list("ref", 0, "''''!a1", "ref", 7, "'a!b'!$A$1"))
	checkTokens(t, "S!A1 _x!$b$2", list("ref", 0, "S!A1", "ref", 5, "_x!$b$2"))
	checkTokens(t, "A1!B2", list("ref", 0, "A1!B2"))
	checkTokens(t, "TRUE!B2", list("ref", 0, "TRUE!B2"))
	checkTokens(t, most+"!A1", list("ref", 0, most+"!A1"))
	checkTokens(t, "S!A1(", list("ref", 0, "S!A1", "sign", 4, "("))
	checkTokens(t, "'S'!A1_", list("ref", 0, "'S'!A1", "name", 6, "_"))
	checkWrong(t, "S!A1.x", 4)
	for _, s := range []string{"''!A1", "'S'", "'S", "'S'A1", "'S' !A1", "'S'!", "'S'!A0", "'S'!A1B", "'S'!BA1", "'S'!A", "S!", "S!x", "S!A1x", "S! A1", "S!$$A1", "x.y!A1", "$S!A1", long + "!A1", "'" + long + "'!A1", "'\x00'!A1", "'\xff'!A1", "S!#REF!", "A1!T!B2"} {
		checkWrong(t, s, 0)
		checkWrong(t, "1+"+s, 2)
	}
	// Calls.
	checkTokens(t, "sum(", list("call", 0, "sum", "sign", 3, "("))
	checkTokens(t, "A1(", list("call", 0, "A1", "sign", 2, "("))
	checkTokens(t, "True(", list("call", 0, "True", "sign", 4, "("))
	checkTokens(t, "x.y_1(", list("call", 0, "x.y_1", "sign", 5, "("))
	checkTokens(t, most+"(", list("call", 0, most, "sign", 30, "("))
	checkTokens(t, "sum (", list("name", 0, "sum", "sign", 4, "("))
	checkTokens(t, "A1 (", list("ref", 0, "A1", "sign", 3, "("))
	checkTokens(t, "TRUE (", list("truth", 0, "TRUE", "sign", 5, "("))
	checkTokens(t, "$A$1(", list("ref", 0, "$A$1", "sign", 4, "("))
	checkWrong(t, "$a(", 0)
	checkWrong(t, long+"(", 0)
	// Columns.
	checkTokens(t, "T[a b]T[#=\"']", list("col", 0, "T[a b]", "col", 6, "T[#=\"']"))
	checkTokens(t, "T["+most+"](", list("col", 0, "T["+most+"]", "sign", 33, "("))
	checkTokens(t, most+"[é]", list("col", 0, most+"[é]"))
	for _, s := range []string{"T[]", "T[a", "T[", "T[[a]]", "T[a[b]", "T[" + long + "]", "T[\x00]", "T[\xff]", "T[\x7f]", long + "[a]"} {
		checkWrong(t, s, 0)
	}
	checkWrong(t, "A1[a]", 2)
	checkWrong(t, "TRUE[a]", 4)
	checkWrong(t, "T [a]", 2)
	checkWrong(t, "T[a]]", 4)
	checkWrong(t, "$a[b]", 0)
	// Truths and names.
	checkTokens(t, "true FALSE fAlSe", list("truth", 0, "TRUE", "truth", 5, "FALSE", "truth", 11, "FALSE"))
	checkTokens(t, "Rate x.y BA1 A0 _", list("name", 0, "Rate", "name", 5, "x.y", "name", 9, "BA1", "name", 13, "A0", "name", 16, "_"))
	checkTokens(t, "az200 AZ$200", list("ref", 0, "az200", "ref", 6, "AZ$200"))
	checkTokens(t, most, list("name", 0, most))
	for _, s := range []string{long, "$", "$x", "a$b", "$A", "A$0", "A1$"} {
		checkWrong(t, s, 0)
	}
}

// P4.2: signs, and what no piece begins with.
func TestSigns(t *testing.T) {
	for _, s := range strings.Fields("<> <= >= = < > & + - * / ^ % ( ) , ; : { }") {
		checkTokens(t, s, list("sign", 0, s))
		checkTokens(t, " "+s+"1", list("sign", 1, s, "num", 1+len(s), "1"))
	}
	checkTokens(t, "<>=", list("sign", 0, "<>", "sign", 2, "="))
	checkTokens(t, "<=>", list("sign", 0, "<=", "sign", 2, ">"))
	checkTokens(t, ">=<", list("sign", 0, ">=", "sign", 2, "<"))
	checkTokens(t, "=<>><", list("sign", 0, "=", "sign", 1, "<>", "sign", 3, ">", "sign", 4, "<"))
	checkTokens(t, "< =", list("sign", 0, "<", "sign", 2, "="))
	for c := range 256 {
		if s := string([]byte{byte(c)}); !strings.Contains(" =<>&+-*/^%(),;:{}_0123456789", s) && (c|32 < 'a' || c|32 > 'z') {
			checkWrong(t, s, 0)
			checkWrong(t, "1 "+s, 2)
		}
	}
	for _, s := range []string{"é", "\u00a0", "１", "×", "𝟙", "\u2028"} {
		checkWrong(t, s, 0)
		checkWrong(t, "a+"+s, 2)
	}
	checkTokens(t, strings.Repeat("(", 200), func() (l []api.Tok) {
		for i := range 200 {
			l = append(l, api.Tok{Kind: api.TkSign, S: "(", At: i})
		}
		return l
	}())
	checkTokens(t, strings.Repeat(" ", 200), nil)
	for _, s := range []string{strings.Repeat("(", 201), strings.Repeat(" ", 201), "?" + strings.Repeat(" ", 200), strings.Repeat("\xff", 100000)} {
		checkWrong(t, s, 200)
	}
}

// P4.2, P4.4: many formulas, right ones and wrong ones, held against the chapter's words.
func TestTokensNear(t *testing.T) {
	d := dice(1)
	right := 0
	for range 100000 {
		s := d.some(d.below(9))
		want, place, fault := told(s)
		got, at, err := lex.Tokens(s)
		if !slices.Equal(got, want) || at != place || err != fault {
			t.Fatalf("Tokens(%q): %v, %d, error %d; want %v, %d, error %d", s, got, at, err, want, place, fault)
		}
		if err == api.OK {
			right++
		}
	}
	if right < 10000 {
		t.Errorf("only %d formulas are right", right)
	}
}
