package fun_test

import (
	"strings"
	"testing"

	"tabula/api"
	"tabula/dec"
	"tabula/fun"
	"tabula/val"
)

// P7.2: sums and orders of numbers.
func TestSums(t *testing.T) {
	checks(t, `
		SUM(1,{2},"3",TRUE,"4") => 11
		SUM(1,{2},"3",TRUE) => 7
		SUM(e) => 0
		SUM(gaps) => 1
		SUM({1,"2",TRUE}) => 1
		SUM("x") => #VALUE!
		SUM("x",#N/A) => #VALUE!
		SUM(#N/A,"x") => #N/A
		SUM(#NULL!) => #NULL!
		SUM({1,#NULL!}) => #NULL!
		LARGE({1,#NULL!},1) => #NULL!
		SUM(1,{1,#NUM!;#N/A,1}) => #NUM!
		SUM(f) => #VALUE!
		SUM(1,f,#N/A) => #VALUE!
		SUM(huge,huge) => #NUM!
		SUM(huge,huge,neg) => #NUM!
		SUM(huge,neg,huge) => 999999999999999000000000
		SUM(big,#N/A) => #N/A
		SUM(big) => #NUM!
		SUM(999999999999999,0.5) => 1000000000000000
		SUM(0.1,0.2) => 0.3
		SUM(wide) => 400
		PRODUCT(2,{3,4}) => 24
		PRODUCT(e) => 0
		PRODUCT({"2"}) => 0
		PRODUCT("2",TRUE,3) => 6
		PRODUCT(huge,huge,0) => #NUM!
		PRODUCT(0.000000001,0.5) => 0
		PRODUCT(huge,huge,"x") => #VALUE!
		PRODUCT(f) => #VALUE!
		MIN(3,{1,2}) => 1
		MIN(e) => 0
		MIN({"1"}) => 0
		MIN(-1,"-2",TRUE) => -2
		MIN(1,#N/A) => #N/A
		MIN(neg,huge) => -999999999999999000000000
		MAX(3,{1,5}) => 5
		MAX(e,{"9"}) => 0
		MAX(-3,e) => -3
		MAX(-3,"-2") => -2
		MAX(f) => #VALUE!
		MAX(TRUE,0.5) => 1
		COUNT(1,"1",TRUE,e,#N/A,f,{1,"1";2,#N/A}) => 3
		COUNT(f) => 0
		COUNT(tall) => 400
		COUNTA(1,"",TRUE,e,#N/A,f,gaps) => 7
		COUNTA(e) => 0
		COUNTBLANK(1,"",TRUE,e,#N/A,f,gaps," ") => 5
		AVERAGE(1,2) => 1.5
		AVERAGE({1,"x",3}) => 2
		AVERAGE(1,1,2) => 1.333333333
		AVERAGE(e) => #DIV/0!
		AVERAGE({"1"}) => #DIV/0!
		AVERAGE("1") => 1
		AVERAGE("x") => #VALUE!
		AVERAGE(#N/A) => #N/A
		AVERAGE(huge,huge) => #NUM!
		MEDIAN(3,1,2) => 2
		MEDIAN(4,1,3,2) => 2.5
		MEDIAN({5;1}) => 3
		MEDIAN(10,9) => 9.5
		MEDIAN(5) => 5
		MEDIAN(e) => #NUM!
		MEDIAN({"x"}) => #NUM!
		MEDIAN(#N/A) => #N/A
		MEDIAN(huge,huge) => #NUM!
		MEDIAN(-1,huge,huge) => 999999999999999000000000
		LARGE({3,1,2},1) => 3
		LARGE({3,1,2},3) => 1
		LARGE({3,1,3},2) => 3
		LARGE({3,1,2},4) => #NUM!
		LARGE({3,1,2},0) => #NUM!
		LARGE({3,1,2},-1) => #NUM!
		LARGE({3,1,2},1.5) => #NUM!
		LARGE({3,1,2},huge) => #NUM!
		LARGE({3,1,2},"2") => 2
		LARGE({3,1,2},TRUE) => 3
		LARGE({3,1,2},e) => #NUM!
		LARGE({3,1,2},"x") => #VALUE!
		LARGE({3,1,2},{1}) => #VALUE!
		LARGE({3,1,2},f) => #VALUE!
		LARGE({3,1,2},#N/A) => #N/A
		LARGE({3,#NUM!},#N/A) => #NUM!
		LARGE(#NUM!,{1}) => #NUM!
		LARGE(f,#N/A) => #VALUE!
		LARGE("5",1) => 5
		LARGE("x",1) => #VALUE!
		LARGE({"5",TRUE},1) => #NUM!
		LARGE(e,1) => #NUM!
		LARGE({10,9,-1},1) => 10
		SMALL({3,1,2},1) => 1
		SMALL({3,1,2},2) => 2
		SMALL({3,1,2},3) => 3
		SMALL({3,1,2},4) => #NUM!
		SMALL({3,#DIV/0!},1) => #DIV/0!
		SMALL({10,9,-1},2) => 9
		COUNTIF({1,"a";"A",1},1) => 2
		COUNTIF({1,"a";"A",1},"a") => 2
		COUNTIF({1,"1"},"1") => 1
		COUNTIF(5,5) => 1
		COUNTIF(5,{5}) => #VALUE!
		COUNTIF(#N/A,#N/A) => 1
		COUNTIF({#N/A,1},#N/A) => 1
		COUNTIF(gaps,e) => 2
		COUNTIF(gaps,0) => 0
		COUNTIF(f,f) => 1
		COUNTIF({TRUE,1},TRUE) => 1
		SUMIF({1,2,1},1) => 2
		SUMIF({1,2,1},1,{10,20,30}) => 40
		SUMIF({1,2,1},1,{10;20;30}) => 40
		SUMIF({"a","b","A"},"a",{1,2,4}) => 5
		SUMIF({1,2,1},1,{10,20}) => #VALUE!
		SUMIF({1,2,1},1,5) => #VALUE!
		SUMIF({1,2,1},{1}) => #VALUE!
		SUMIF({1,2,1},3) => 0
		SUMIF({1,2,1},1,{#N/A,2,#NUM!}) => #N/A
		SUMIF({1,2,1},2,{#N/A,2,#NUM!}) => 2
		SUMIF({1,2,1},1,{"5",TRUE,7}) => 7
		SUMIF({1,2,1},2,{"5",TRUE,7}) => 0
		SUMIF(#N/A,#N/A) => #N/A
		SUMIF(#N/A,1) => 0
		SUMIF(5,5) => 5
		SUMIF(5,5,7) => 7
		SUMIF("5","5") => 0
		SUMIF({1,1,1},1,big) => #NUM!
		SUMIF({1,2,1},1,big) => 0
		SUMIF(f,f) => 0
		SUMIF(gaps,e,{1,2;4,8}) => 9
	`)
}

// P7.2: functions of arrays.
func TestRanges(t *testing.T) {
	checks(t, `
		ROWS({1,2;3,4;5,6}) => 3
		ROWS(5) => 1
		ROWS(e) => 1
		ROWS(f) => 1
		ROWS(#N/A) => #N/A
		COLUMNS({1,2;3,4;5,6}) => 2
		COLUMNS("x") => 1
		COLUMNS(f) => 1
		COLUMNS(#NUM!) => #NUM!
		INDEX({1,2;3,4},2,1) => 3
		INDEX({1,2;3,4},1,2) => 2
		INDEX({1,2;3,4},2) => 3
		INDEX({1,2,3},2) => 2
		INDEX({1,2,3},3) => 3
		INDEX({1,2,3},4) => #REF!
		INDEX({1,2,3},2,1) => #REF!
		INDEX({1,2,3},1,3) => 3
		INDEX({1;2;3},2) => 2
		INDEX({1;2;3},4) => #REF!
		INDEX({1;2;3},1,2) => #REF!
		INDEX({1,2;3,4},3,1) => #REF!
		INDEX({1,2;3,4},1,3) => #REF!
		INDEX({1,2;3,4},3) => #REF!
		INDEX(5,1) => 5
		INDEX(5,1,1) => 5
		INDEX(5,2) => #REF!
		INDEX(5,1,2) => #REF!
		INDEX(e,1) =>
		INDEX(f,1,1) => LAMBDA
		INDEX(f,2) => #REF!
		INDEX(#N/A,#NUM!,0) => #N/A
		INDEX({1,2},#NUM!,#N/A) => #NUM!
		INDEX({1,2},1,#N/A) => #N/A
		INDEX({1,2},0,#N/A) => #VALUE!
		INDEX({1,2},{1},#N/A) => #VALUE!
		INDEX({1,2},9,#N/A) => #N/A
		INDEX({1,2},9,0) => #VALUE!
		INDEX({1,2},"x",#N/A) => #VALUE!
		INDEX({1,2},f,#N/A) => #VALUE!
		INDEX({1,2},1,1.5) => #VALUE!
		INDEX({1,2},1,e) => #VALUE!
		INDEX({1,2},1,{1}) => #VALUE!
		INDEX({1,2},-1) => #VALUE!
		INDEX({1,2},huge) => #VALUE!
		INDEX({1,2},"2") => 2
		INDEX({1,#N/A},TRUE,2) => #N/A
		MATCH(2,{1,2,2}) => 2
		MATCH("B",{"a";"b"}) => 2
		MATCH(4,{1,2;3,4}) => 4
		MATCH(5,{1,2}) => #N/A
		MATCH("2",{1,2}) => #N/A
		MATCH(5,5) => 1
		MATCH(#NUM!,{1,#NUM!}) => #NUM!
		MATCH({1},{1}) => #VALUE!
		MATCH(1,#NUM!) => #N/A
		MATCH(1,{#NUM!,1}) => 2
		MATCH(e,gaps) => 1
		MATCH(0,gaps) => #N/A
		MATCH("",gaps) => 3
		MATCH(f,f) => 1
		MATCH(f,{1}) => #N/A
		TRANSPOSE({1,2,3;4,5,6}) => {1,4;2,5;3,6}
		TRANSPOSE({1,2,3}) => {1;2;3}
		TRANSPOSE({1;2}) => {1,2}
		TRANSPOSE(5) => 5
		TRANSPOSE(e) =>
		TRANSPOSE(#N/A) => #N/A
		TRANSPOSE(f) => LAMBDA
		SEQUENCE(3) => {1;2;3}
		SEQUENCE(2,3) => {1,2,3;4,5,6}
		SEQUENCE(2,2,10) => {10,11;12,13}
		SEQUENCE(2,2,0,-0.5) => {0,-0.5;-1,-1.5}
		SEQUENCE(1) => {1}
		SEQUENCE("2",TRUE) => {1;2}
		SEQUENCE(2,1,e) => {0;1}
		SEQUENCE(2,1,1,e) => {1;1}
		SEQUENCE(0) => #VALUE!
		SEQUENCE(-1) => #VALUE!
		SEQUENCE(1.5) => #VALUE!
		SEQUENCE(e) => #VALUE!
		SEQUENCE(1,0) => #VALUE!
		SEQUENCE(1,1.5) => #VALUE!
		SEQUENCE(401) => #VALUE!
		SEQUENCE(1,401) => #VALUE!
		SEQUENCE(21,20) => #VALUE!
		SEQUENCE(huge,1) => #VALUE!
		SEQUENCE(999999999999999,999999999999999) => #VALUE!
		SEQUENCE({1}) => #VALUE!
		SEQUENCE(f) => #VALUE!
		SEQUENCE(#N/A,#NUM!) => #N/A
		SEQUENCE(0,#NUM!) => #NUM!
		SEQUENCE(0,1,1,#NUM!) => #NUM!
		SEQUENCE(0,{1},#NUM!) => #VALUE!
		SEQUENCE(2,"x",#NUM!) => #VALUE!
		SEQUENCE(3,1,0,huge) => {0;999999999999999000000000;#NUM!}
		SEQUENCE(2,1,huge,huge) => {999999999999999000000000;#NUM!}
		SEQUENCE(3,1,neg,huge) => {-999999999999999000000000;0;#NUM!}
		SEQUENCE(2,1,999999999999999,0.5) => {999999999999999;1000000000000000}
		UNIQUE({1;2;1}) => {1;2}
		UNIQUE({1,"a";2,"b";1,"A"}) => {1,"a";2,"b"}
		UNIQUE({1,2,1}) => {1,2,1}
		UNIQUE({#N/A;#N/A}) => {#N/A}
		UNIQUE({1,2;2,1}) => {1,2;2,1}
		UNIQUE({"b";"B";"b"}) => {"b"}
		UNIQUE(5) => 5
		UNIQUE(#N/A) => #N/A
		UNIQUE(f) => LAMBDA
		UNIQUE(tall) => {2}
		SORT({3;1;2}) => {1;2;3}
		SORT({3,"a";1,"b";2,"c"}) => {1,"b";2,"c";3,"a"}
		SORT({3,"b";1,"c";2,"a"},2) => {2,"a";3,"b";1,"c"}
		SORT({2,"x";1,"b";2,"a";1,"a"}) => {1,"b";1,"a";2,"x";2,"a"}
		SORT({"b";"A";"B";"a"}) => {"A";"a";"b";"B"}
		SORT({TRUE;"a";1;#N/A;FALSE}) => {1;"a";FALSE;TRUE;#N/A}
		SORT({3,1,2}) => {3,1,2}
		SORT({3,1,2},3) => {3,1,2}
		SORT({3,1,2},4) => #VALUE!
		SORT({3,1,2},0) => #VALUE!
		SORT({3,1,2},1.5) => #VALUE!
		SORT({3,1,2},e) => #VALUE!
		SORT({3,1,2},{1}) => #VALUE!
		SORT({3,1,2},"x") => #VALUE!
		SORT({3,1,2},"2") => {3,1,2}
		SORT({3,1,2},#N/A) => #N/A
		SORT({3,1,2},f) => #VALUE!
		SORT(5) => 5
		SORT(5,1) => 5
		SORT(5,2) => #VALUE!
		SORT(5,0) => #VALUE!
		SORT(5,{1}) => #VALUE!
		SORT(5,#N/A) => #N/A
		SORT(#NUM!,#N/A) => #NUM!
		SORT(f) => LAMBDA
		SORT(f,1) => LAMBDA
		SORT(f,2) => #VALUE!
		SORT(e) =>
		FILTER({1;2;3},{TRUE;FALSE;TRUE}) => {1;3}
		FILTER({1,2;3,4},{0;1}) => {3,4}
		FILTER({1;2},{0;"false"}) => #N/A
		FILTER({1;2},{0;0},"none") => none
		FILTER({1;2},{0;0},{7,8}) => {7,8}
		FILTER({1;2},{0;0},f) => LAMBDA
		FILTER({1;2},{0;0},#NUM!) => #NUM!
		FILTER({1;2},{0;1},#NUM!) => {2}
		FILTER({1;2},{1,1}) => #VALUE!
		FILTER({1;2},{1;1;1}) => #VALUE!
		FILTER({1;2},1) => #VALUE!
		FILTER({1,2},1) => {1,2}
		FILTER({1,2},{1,1}) => #VALUE!
		FILTER(5,TRUE) => {5}
		FILTER(5,0) => #N/A
		FILTER(5,0,6) => 6
		FILTER(5,{TRUE}) => {5}
		FILTER(5,"x") => #VALUE!
		FILTER(5,#NUM!) => #NUM!
		FILTER(e,1) => {}
		FILTER({1;2},{1;"x"}) => #VALUE!
		FILTER({1;2},{#NUM!;"x"}) => #NUM!
		FILTER({1;2},{1;#NUM!},7) => #NUM!
		FILTER({1;#N/A},{0;1}) => {#N/A}
		FILTER(#N/A,f) => #N/A
		FILTER(#N/A,{1,2}) => #N/A
		FILTER(f,1) => #VALUE!
		FILTER(f,#NUM!) => #VALUE!
		FILTER(5,f) => #VALUE!
		FILTER({1;2},#NUM!) => #VALUE!
		FILTER({1,2;3,4},gaps) => #VALUE!
		VLOOKUP(2,{1,"a";2,"b";2,"c"},2) => b
		VLOOKUP("B",{"a",1;"b",2},2) => 2
		VLOOKUP(2,{1,"a";2,"b"},1) => 2
		VLOOKUP(2,{1,"a";2,"b"},3) => #REF!
		VLOOKUP(3,{1,"a";2,"b"},3) => #N/A
		VLOOKUP("2",{1,"a";2,"b"},2) => #N/A
		VLOOKUP(3,{1,"a";2,"b"},0) => #VALUE!
		VLOOKUP(3,{1,"a";2,"b"},1.5) => #VALUE!
		VLOOKUP(3,{1,"a";2,"b"},{1}) => #VALUE!
		VLOOKUP(3,{1,"a";2,"b"},#NUM!) => #NUM!
		VLOOKUP(3,{1,"a";2,"b"},f) => #VALUE!
		VLOOKUP(1,{1,"a";2,"b"},"2") => a
		VLOOKUP(#N/A,{1,"a"},#NUM!) => #N/A
		VLOOKUP({1},{1,"a"},#NUM!) => #VALUE!
		VLOOKUP(5,5,1) => 5
		VLOOKUP(5,5,2) => #REF!
		VLOOKUP(5,6,1) => #N/A
		VLOOKUP(5,#NUM!,1) => #N/A
		VLOOKUP(1,{#NUM!,"a";1,#DIV/0!},2) => #DIV/0!
		VLOOKUP(e,gaps,2) => 1
		VLOOKUP(f,f,1) => LAMBDA
		VLOOKUP(1,wide,400) => 1
		VLOOKUP(1,wide,401) => #REF!
	`)
}

// P7.2: arrays as great as they may be.
func TestSequence(t *testing.T) {
	for _, size := range [][2]int{{400, 1}, {1, 400}, {20, 20}, {200, 2}, {16, 25}, {133, 3}} {
		rows, _ := dec.Of(size[0])
		cols, _ := dec.Of(size[1])
		got := fun.Call("SEQUENCE", []api.Val{{Kind: api.Num, N: rows}, {Kind: api.Num, N: cols}}, api.Dec{})
		if got.Rows != size[0] || got.Cols != size[1] || !val.Right(got) {
			t.Errorf("SEQUENCE of %v: %d rows, %d columns", size, got.Rows, got.Cols)
		}
		for i, v := range got.L {
			if n, _ := dec.Of(i + 1); v.N != n {
				t.Errorf("SEQUENCE of %v: %+v in place %d", size, v, i)
			}
		}
	}
}

// P7.4: sums do not hang on how numbers are parted into arrays.
func TestParted(t *testing.T) {
	d := dice(5)
	for range 500 {
		var plain, parted []api.Val
		for range 1 + d.below(20) {
			plain = append(plain, num([]int{1, 3, -7, 125, 999999999999999}[d.below(5)], d.below(8)-4))
		}
		for rest := plain; len(rest) > 0; {
			n := 1 + d.below(len(rest))
			parted = append(parted, array(1, n, rest[:n]...))
			rest = rest[n:]
		}
		for _, name := range strings.Fields("SUM PRODUCT MIN MAX COUNT COUNTA AVERAGE MEDIAN CONCAT") {
			a, b, c := fun.Call(name, plain, api.Dec{}), fun.Call(name, parted, api.Dec{}), fun.Call(name, []api.Val{array(len(plain), 1, plain...)}, api.Dec{})
			if !val.Same(a, b) || !val.Same(a, c) {
				t.Errorf("%s of %+v: %+v, %+v, %+v", name, plain, a, b, c)
			}
		}
	}
}
