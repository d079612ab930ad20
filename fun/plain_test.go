package fun_test

import (
	"math/big"
	"strings"
	"testing"

	"tabula/api"
	"tabula/dec"
	"tabula/fun"
	"tabula/val"
)

// P7.3: functions of numbers.
func TestNumbers(t *testing.T) {
	checks(t, `
		ABS(-1.5) => 1.5
		ABS(0) => 0
		ABS(neg) => 999999999999999000000000
		ABS("-2") => 2
		ABS("") => #VALUE!
		ABS(e) => 0
		ABS(TRUE) => 1
		SIGN(-0.000000001) => -1
		SIGN(0) => 0
		SIGN(huge) => 1
		INT(2.9) => 2
		INT(-2.1) => -3
		INT(-2) => -2
		INT(0.5) => 0
		INT(-0.5) => -1
		INT(huge) => 999999999999999000000000
		INT(neg) => -999999999999999000000000
		INT(999999.999999999) => 999999
		INT(-999999.999999999) => -1000000
		INT(-99999999999999.9) => -100000000000000
		TRUNC(2.9) => 2
		TRUNC(-2.9) => -2
		TRUNC(-0.5) => 0
		TRUNC(-3) => -3
		TRUNC(neg) => -999999999999999000000000
		ROUND(2.5) => 3
		ROUND(-2.5) => -3
		ROUND(1.25,1) => 1.3
		ROUND(1250,-2) => 1300
		ROUND(1.5,9) => 1.5
		ROUND(500000000,-9) => 1000000000
		ROUND(1.5,10) => #NUM!
		ROUND(1.5,-10) => #NUM!
		ROUND(1.5,0.5) => #NUM!
		ROUND(1.5,huge) => #NUM!
		ROUND(huge,9) => 999999999999999000000000
		ROUND(1.5,e) => 2
		MOD(7,3) => 1
		MOD(-7,3) => 2
		MOD(7,-3) => -2
		MOD(-7,-3) => -1
		MOD(5.5,2) => 1.5
		MOD(6,3) => 0
		MOD(1,0) => #DIV/0!
		MOD(1,e) => #DIV/0!
		MOD(1,3) => 1
		MOD(huge,tiny) => #NUM!
		MOD(1,huge) => 1
		MOD(-1,huge) => -1
		MOD(-1,1000000000) => 999999999
		MOD(huge,2) => #NUM!
		QUOTIENT(7,2) => 3
		QUOTIENT(-7,2) => -3
		QUOTIENT(7,-2) => -3
		QUOTIENT(6,3) => 2
		QUOTIENT(1,0) => #DIV/0!
		QUOTIENT(huge,tiny) => #NUM!
		QUOTIENT(1,huge) => 0
		POWER(2,10) => 1024
		POWER(2,-3) => 0.125
		POWER(0,0) => 1
		POWER(0,-1) => #DIV/0!
		POWER(10,24) => #NUM!
		POWER(2,0.5) => #NUM!
		POWER(1,100) => 1
		POWER(1,-100) => 1
		POWER(1,101) => #NUM!
		POWER(1,-101) => #NUM!
		POWER(1,huge) => #NUM!
		POWER(-2,3) => -8
		FACT(0) => 1
		FACT(1) => 1
		FACT(5) => 120
		FACT(17) => 355687428096000
		FACT(18) => #NUM!
		FACT(-1) => #NUM!
		FACT(2.5) => #NUM!
		FACT(huge) => #NUM!
		ISEVEN(2) => TRUE
		ISEVEN(3) => FALSE
		ISEVEN(0) => TRUE
		ISEVEN(2.9) => TRUE
		ISEVEN(-3.9) => FALSE
		ISEVEN(-0.5) => TRUE
		ISEVEN(huge) => TRUE
		ISEVEN(1000000000000000) => TRUE
		ISEVEN(999999999999999) => FALSE
		ISODD(3) => TRUE
		ISODD(-3) => TRUE
		ISODD(-3.9) => TRUE
		ISODD(2.9) => FALSE
		ISODD(10) => FALSE
		ISODD(huge) => FALSE
		VALUE("1.50") => 1.5
		VALUE("x") => #VALUE!
		VALUE(TRUE) => 1
		CHAR(65) => A
		CHAR(49) => '1
		CHAR(126) => ~
		CHAR(127) => #VALUE!
		CHAR(128) => `+"\u0080"+`
		CHAR(31) => #VALUE!
		CHAR(0) => #VALUE!
		CHAR(-65) => #VALUE!
		CHAR(65.5) => #VALUE!
		CHAR(233) => é
		CHAR(55295) => `+"\ud7ff"+`
		CHAR(55296) => #VALUE!
		CHAR(57343) => #VALUE!
		CHAR(57344) => `+"\ue000"+`
		CHAR(1114111) => `+"\U0010ffff"+`
		CHAR(1114112) => #VALUE!
		CHAR(huge) => #VALUE!
	`)
	if got := fun.Call("CHAR", []api.Val{num(32, 0)}, api.Dec{}); !val.Same(got, text(" ")) {
		t.Errorf("CHAR(32): %+v", got)
	}
}

func (d *dice) decimal() api.Dec {
	a, err := dec.Of(d.below(1<<31)*[]int{0, 1, 1, 1000, 100000}[d.below(5)] + d.below(1000) - 500)
	if err != api.OK {
		return api.Dec{}
	}
	a, err = dec.Mul(a, api.Dec{M: 1, E: d.below(19) - 9})
	if err != api.OK {
		return api.Dec{}
	}
	return a
}

// P7.3: whole numbers, by fractions.
func TestWhole(t *testing.T) {
	d := dice(4)
	for range 20000 {
		a := d.decimal()
		s, _ := dec.Text(a)
		x, _ := new(big.Rat).SetString(s)
		floor := new(big.Int).Div(x.Num(), x.Denom())
		trunc := new(big.Int).Quo(x.Num(), x.Denom())
		for name, want := range map[string]string{"INT": floor.String(), "TRUNC": trunc.String(), "SIGN": big.NewInt(int64(x.Sign())).String(), "ABS": strings.TrimPrefix(s, "-")} {
			if got, _ := val.Text(fun.Call(name, []api.Val{{Kind: api.Num, N: a}}, api.Dec{})); got != want {
				t.Fatalf("%s of %s: %s; want %s", name, s, got, want)
			}
		}
		for name, want := range map[string]bool{"ISEVEN": trunc.Bit(0) == 0, "ISODD": trunc.Bit(0) == 1} {
			if got := fun.Call(name, []api.Val{{Kind: api.Num, N: a}}, api.Dec{}); !val.Same(got, truth(want)) {
				t.Fatalf("%s of %s: %+v", name, s, got)
			}
		}
	}
}

// P7.3: functions of truths, and of any values.
func TestLogic(t *testing.T) {
	checks(t, `
		NOT(TRUE) => FALSE
		NOT(0) => TRUE
		NOT("false") => TRUE
		NOT("x") => #VALUE!
		NOT(e) => TRUE
		IF(TRUE,1,2) => 1
		IF(0,1,2) => 2
		IF(FALSE,1) => FALSE
		IF(TRUE,1) => 1
		IF("x",1,2) => #VALUE!
		IF(#N/A,1,2) => #N/A
		IF(TRUE,#DIV/0!,2) => #DIV/0!
		IF(FALSE,#DIV/0!,2) => 2
		IF(e,1,2) => 2
		IF(TRUE,e,2) =>
		IF(TRUE,f,2) => LAMBDA
		IF(TRUE,{1,2},3) => {1,2}
		IF(f,1,2) => #VALUE!
		IFERROR(1,2) => 1
		IFERROR(#N/A,2) => 2
		IFERROR(#DIV/0!,#N/A) => #N/A
		IFERROR(f,2) => LAMBDA
		IFERROR(e,2) =>
		IFNA(#N/A,2) => 2
		IFNA(#DIV/0!,2) => #DIV/0!
		IFNA(1,2) => 1
		ISNUMBER(1) => TRUE
		ISNUMBER("1") => FALSE
		ISNUMBER(e) => FALSE
		ISNUMBER(#N/A) => FALSE
		ISNUMBER(f) => FALSE
		ISTEXT("") => TRUE
		ISTEXT(1) => FALSE
		ISTEXT(e) => FALSE
		ISLOGICAL(FALSE) => TRUE
		ISLOGICAL(0) => FALSE
		ISLOGICAL("true") => FALSE
		ISERROR(#N/A) => TRUE
		ISERROR(#REF!) => TRUE
		ISERROR("#N/A") => FALSE
		ISBLANK(e) => TRUE
		ISBLANK("") => FALSE
		ISBLANK(0) => FALSE
		ISNA(#N/A) => TRUE
		ISNA(#NAME?) => FALSE
		ISNA(1) => FALSE
		TRUE() => TRUE
		FALSE() => FALSE
		NA() => #N/A
		NOW() => 7
		TYPE(e) => 1
		TYPE(1) => 1
		TYPE("") => 2
		TYPE(TRUE) => 4
		TYPE(#N/A) => 16
		TYPE({1}) => 64
		TYPE(f) => 128
		AND(TRUE,1,"true") => TRUE
		AND(TRUE,0) => FALSE
		AND(#NULL!) => #NULL!
		OR({TRUE,#NULL!}) => #NULL!
		AND(TRUE,"x") => #VALUE!
		AND(TRUE,"1") => #VALUE!
		AND(e) => #VALUE!
		AND({"x"}) => #VALUE!
		AND({"x",TRUE}) => TRUE
		AND({"false",TRUE}) => TRUE
		AND({"x",FALSE}) => FALSE
		AND(FALSE,#N/A) => #N/A
		AND(FALSE,{1,#NUM!},#N/A) => #NUM!
		AND("x",#N/A) => #VALUE!
		AND(f) => #VALUE!
		AND(e,TRUE) => TRUE
		AND(gaps) => TRUE
		AND({0.5;-1}) => TRUE
		OR(FALSE,0) => FALSE
		OR(FALSE,{0,2}) => TRUE
		OR("TRUE") => TRUE
		OR(void) => #VALUE!
		OR(TRUE,#N/A) => #N/A
		OR(TRUE,f) => #VALUE!
		XOR(TRUE,TRUE) => FALSE
		XOR(TRUE,TRUE,TRUE) => TRUE
		XOR(TRUE,{1,0;1,"x"},e) => TRUE
		XOR("x") => #VALUE!
		XOR({"x"}) => #VALUE!
		XOR(FALSE) => FALSE
		CHOOSE(1,"a","b") => a
		CHOOSE(2,"a","b") => b
		CHOOSE("2","a","b") => b
		CHOOSE(TRUE,"a","b") => a
		CHOOSE(3,"a","b") => #VALUE!
		CHOOSE(0,"a","b") => #VALUE!
		CHOOSE(-1,"a","b") => #VALUE!
		CHOOSE(1.5,"a","b") => #VALUE!
		CHOOSE(e,"a","b") => #VALUE!
		CHOOSE(#N/A,"a") => #N/A
		CHOOSE("x","a") => #VALUE!
		CHOOSE({1},"a") => #VALUE!
		CHOOSE(f,"a") => #VALUE!
		CHOOSE(1,{1,2},3) => {1,2}
		CHOOSE(1,f) => LAMBDA
		CHOOSE(2,#N/A,3) => 3
		CHOOSE(1,#N/A,3) => #N/A
		CHOOSE(19,1,2,3,4,5,6,7,8,9,10,11,12,13,14,15,16,17,18,19) => 19
		CHOOSE(huge,1) => #VALUE!
	`)
}

// P7.3: functions of texts.
func TestTexts(t *testing.T) {
	most := strings.Repeat("z", 200)
	checks(t, `
		LEN("héllo") => 5
		LEN("") => 0
		LEN(e) => 0
		LEN(most) => 200
		LEN(-1.5) => 4
		LEN(TRUE) => 4
		LEN(#N/A) => #N/A
		LEN("日本𝟙") => 3
		LEFT("héllo") => h
		LEFT("héllo",2) => hé
		LEFT("héllo",0) => '
		LEFT("héllo",99) => héllo
		LEFT("héllo",-1) => #VALUE!
		LEFT("héllo",1.5) => #VALUE!
		LEFT("héllo",huge) => #VALUE!
		LEFT("héllo",999999999999999) => héllo
		LEFT("") => '
		LEFT(123,2) => '12
		LEFT("abc",e) => '
		RIGHT("héllo") => o
		RIGHT("héllo",4) => éllo
		RIGHT("héllo",0) => '
		RIGHT("héllo",99) => héllo
		RIGHT("héllo",-1) => #VALUE!
		RIGHT("héllo",0.5) => #VALUE!
		RIGHT("",5) => '
		MID("héllo",2,3) => éll
		MID("héllo",1,5) => héllo
		MID("héllo",5,1) => o
		MID("héllo",6,1) => '
		MID("héllo",999999999999999,999999999999999) => '
		MID("héllo",2,99) => éllo
		MID("héllo",2,0) => '
		MID("héllo",0,1) => #VALUE!
		MID("héllo",1,-1) => #VALUE!
		MID("héllo",1.5,1) => #VALUE!
		MID("héllo",1,0.5) => #VALUE!
		MID("héllo",huge,1) => #VALUE!
		UPPER("aZé1z") => AZé1Z
		LOWER("AzÉ1Z") => azÉ1z
		UPPER(TRUE) => 'TRUE
		LOWER(TRUE) => 'true
		UPPER("ſßı") => ſßı
		TRIM("  a   b c ") => a b c
		TRIM("   ") => '
		TRIM("") => '
		TRIM("a b") => a b
		TRIM("`+"\u00a0"+` a") => `+"\u00a0"+` a
		REPT("ab",3) => ababab
		REPT("ab",0) => '
		REPT("ab",100) => `+strings.Repeat("ab", 100)+`
		REPT("ab",101) => #VALUE!
		REPT("é",100) => `+strings.Repeat("é", 100)+`
		REPT("é",101) => #VALUE!
		REPT("",999999999999999) => '
		REPT("ab",999999999999999) => #VALUE!
		REPT("ab",-1) => #VALUE!
		REPT("",-1) => #VALUE!
		REPT("ab",1.5) => #VALUE!
		REPT("",huge) => #VALUE!
		REPT(most,1) => `+most+`
		FIND("l","héllo") => 3
		FIND("l","héllo",4) => 4
		FIND("l","héllo",5) => #VALUE!
		FIND("L","héllo") => #VALUE!
		FIND("héllo","héllo") => 1
		FIND("lo","héllo") => 4
		FIND("","héllo") => 1
		FIND("","héllo",6) => 6
		FIND("","héllo",7) => #VALUE!
		FIND("x","héllo",6) => #VALUE!
		FIND("","") => 1
		FIND("",e,2) => #VALUE!
		FIND("a","") => #VALUE!
		FIND("l","héllo",0) => #VALUE!
		FIND("l","héllo",-1) => #VALUE!
		FIND("l","héllo",1.5) => #VALUE!
		FIND("l","héllo",huge) => #VALUE!
		FIND(2,123) => 2
		SUBSTITUTE("aaa","a","bc") => bcbcbc
		SUBSTITUTE("aaa","aa","b") => ba
		SUBSTITUTE("abc","","x") => abc
		SUBSTITUTE("abc","x","y") => abc
		SUBSTITUTE("abc","b","") => ac
		SUBSTITUTE("aAa","a","x") => xAx
		SUBSTITUTE(121,1,"") => '2
		SUBSTITUTE(most,"z","zz") => #VALUE!
		SUBSTITUTE(long,"z","zz") => {"`+most+`",#VALUE!}
		SUBSTITUTE(most,"zz","z") => `+most[:100]+`
		EXACT("a","a") => TRUE
		EXACT("a","A") => FALSE
		EXACT(1,"1") => TRUE
		EXACT(e,"") => TRUE
		CODE("é!") => 233
		CODE("A") => 65
		CODE("𝟙") => 120793
		CODE("") => #VALUE!
		CODE(e) => #VALUE!
		CODE(1) => 49
		CONCAT("a",1,TRUE,e,{2,"b";#NUM!,"c"}) => #NUM!
		CONCAT("a",#REF!,#N/A) => #REF!
		CONCAT("a",1,TRUE,e,{2,"b"}) => a1TRUE2b
		CONCAT("a",f,#N/A) => #VALUE!
		CONCAT(#N/A,f) => #N/A
		CONCAT(1,#NULL!) => #NULL!
		TEXTJOIN("",TRUE,1,#NULL!) => #NULL!
		CONCAT(e) => '
		CONCAT(most,"") => `+most+`
		CONCAT(most,"z") => #VALUE!
		CONCAT(long) => #VALUE!
		CONCAT(long,#N/A) => #N/A
		TEXTJOIN("-",TRUE,"a",e,"","b",{"c","";1,2}) => a-b-c-1-2
		TEXTJOIN("-",FALSE,"a",e,"","b") => a---b
		TEXTJOIN(e,FALSE,"a","b") => ab
		TEXTJOIN(1,0,gaps) => '1111
		TEXTJOIN(", ",1,gaps) => '1
		TEXTJOIN("-",TRUE,e) => '
		TEXTJOIN("-",FALSE,e,e) => -
		TEXTJOIN("-","x",1) => #VALUE!
		TEXTJOIN("-","x",#N/A) => #VALUE!
		TEXTJOIN({"-"},#N/A,1) => #VALUE!
		TEXTJOIN(#N/A,{TRUE},1) => #VALUE!
		TEXTJOIN(#N/A,#NUM!,1) => #N/A
		TEXTJOIN("-",#NUM!,#N/A) => #NUM!
		TEXTJOIN(f,#NUM!,1) => #VALUE!
		TEXTJOIN("-",f,1) => #VALUE!
		TEXTJOIN("-",TRUE,"a",f,#N/A) => #VALUE!
		TEXTJOIN("-",TRUE,"a",{1,#NUM!},#N/A) => #NUM!
		TEXTJOIN("",TRUE,most,e) => `+most+`
		TEXTJOIN("-",FALSE,most,e) => #VALUE!
		TEXTJOIN("-",TRUE,half) => #VALUE!
		TEXTJOIN("-",TRUE,half,#N/A) => #N/A
	`)
}
