package pivot_test

import (
	"math"
	"strconv"
	"strings"
	"testing"

	"tabula/api"
	"tabula/dec"
	"tabula/pivot"
	"tabula/val"
)

// P23.1: tables turned.
func TestTurn(t *testing.T) {
	const sales = "k,m,n;b,y,1;a,x,2;b,x,3;A,x,4;a,z,"
	const mixed = "k,m,n;a,x,1;a,x,y;a,x,TRUE;a,x,;a,x,4;b,x,z;b,x,;c,x,1;c,x,#N/A;c,x,#DIV/0!;d,x,;e,x,0.1;e,x,-2;e,x,0.1"
	for _, c := range []struct {
		table           string
		row, col, value int
		how             int
		want            string
	}{
		{"k,m,n;a,x,1;b,x,2;a,x,4", 0, 1, 2, api.HowSum, "k,x;a,5;b,2"},
		{sales, 0, 1, 2, api.HowSum, "k,x,y,z;a,6,,0;b,3,1,"},
		{sales, 0, 1, 2, api.HowCount, "k,x,y,z;a,2,,0;b,1,1,"},
		{sales, 0, 1, 2, api.HowMean, "k,x,y,z;a,3,,#DIV/0!;b,3,1,"},
		{sales, 1, 0, 2, api.HowSum, "m,a,b;x,6,3;y,,1;z,0,"},
		{sales, 2, 2, 2, api.HowMost, "n,,1,2,3,4;,,,,,;1,,1,,,;2,,,2,,;3,,,,3,;4,,,,,4"},
		{mixed, 0, 1, 2, api.HowSum, "k,x;a,5;b,0;c,#N/A;d,0;e,-1.8"},
		{mixed, 0, 1, 2, api.HowCount, "k,x;a,4;b,1;c,#N/A;d,0;e,3"},
		{mixed, 0, 1, 2, api.HowLeast, "k,x;a,1;b,;c,#N/A;d,;e,-2"},
		{mixed, 0, 1, 2, api.HowMost, "k,x;a,4;b,;c,#N/A;d,;e,0.1"},
		{mixed, 0, 1, 2, api.HowMean, "k,x;a,2.5;b,#DIV/0!;c,#N/A;d,#DIV/0!;e,-0.6"},
		{"k,m;a,3", 0, 0, 1, api.HowSum, "k,a;a,3"},
		{"k;a", 0, 0, 0, api.HowCount, "k,a;a,1"},
		{"#N/A,m,n;#N/A,#DIV/0!,1;#N/A,TRUE,2;7,TRUE,3", 0, 1, 2, api.HowSum, "#N/A,TRUE,#DIV/0!;7,3,;#N/A,2,1"},
		{"k,m,n;a,x,999999999999999000000000;a,x,999999999999999000000000", 0, 1, 2, api.HowSum, "k,x;a,#NUM!"},
		{"k,m,n;a,x,999999999999999000000000;a,x,999999999999999000000000", 0, 1, 2, api.HowMean, "k,x;a,#NUM!"},
		{"k,m,n;a,x,999999999999999000000000;a,x,999999999999999000000000", 0, 1, 2, api.HowMost, "k,x;a,999999999999999000000000"},
		{"k,m,n;a,x,1;a,x,1;a,x,0", 0, 1, 2, api.HowMean, "k,x;a,0.666666667"},
		{"k,m,n;TRUE,x,1;true,x,1;'true,x,5;,x,7;1,x,9;'1,x,11", 0, 1, 2, api.HowSum, "k,x;,7;1,9;'1,11;'true,5;TRUE,2"},
	} {
		got, err := pivot.Turn(table(t, c.table), c.row, c.col, c.value, c.how)
		if written(got) != c.want || got.Rows != strings.Count(c.want, ";")+1 || err != api.OK {
			t.Errorf("Turn of %s by %d, %d, %d of %d: %s, error %d; want %s", c.table, c.row, c.col, c.how, c.value, written(got), err, c.want)
		}
	}
}

// wide is a table with so many keys down, and so many across.
func wide(down int, across int) string {
	rows := []string{"k,m"}
	for i := range max(down, across) {
		rows = append(rows, strconv.Itoa(min(i, down-1))+","+strconv.Itoa(min(i, across-1)))
	}
	return strings.Join(rows, ";")
}

// P23.1: what can't be turned.
func TestTurnWrong(t *testing.T) {
	refuse := func(v api.Val, row int, col int, value int, how int) {
		t.Helper()
		if got, err := pivot.Turn(v, row, col, value, how); !val.Same(got, api.Val{}) || err != api.ErrPivot {
			t.Errorf("Turn of %s by %d, %d, %d of %d: %s, error %d", written(v), row, col, how, value, written(got), err)
		}
	}
	good := table(t, "k,m,n;a,x,1")
	for _, n := range []int{-1, 3, math.MinInt, math.MaxInt} {
		refuse(good, n, 1, 2, api.HowSum)
		refuse(good, 0, n, 2, api.HowSum)
		refuse(good, 0, 1, n, api.HowSum)
	}
	for _, how := range []int{0, -1, 6, math.MinInt, math.MaxInt} {
		refuse(good, 0, 1, 2, how)
	}
	for _, v := range append(noTables(), table(t, "k,m,n")) {
		refuse(v, 0, 0, 0, api.HowSum)
	}
	for _, size := range [][2]int{{19, 19}, {7, 49}, {1, 199}, {199, 1}} {
		if got, err := pivot.Turn(table(t, wide(size[0], size[1])), 0, 1, 0, api.HowCount); len(got.L) != (size[0]+1)*(size[1]+1) || err != api.OK {
			t.Errorf("of %v keys: %d values, error %d", size, len(got.L), err)
		}
	}
	for _, size := range [][2]int{{19, 20}, {20, 19}, {7, 50}, {199, 2}, {199, 199}} {
		refuse(table(t, wide(size[0], size[1])), 0, 1, 0, api.HowCount)
	}
}

// P23.2: tables sorted.
func TestSort(t *testing.T) {
	const some = "b,2,x;a,1,y;B,1,z;a,2,w"
	for _, c := range []struct {
		table string
		cols  []int
		want  string
	}{
		{some, nil, some},
		{some, []int{0}, "a,1,y;a,2,w;b,2,x;B,1,z"},
		{some, []int{-1}, "b,2,x;B,1,z;a,1,y;a,2,w"},
		{some, []int{0, 1}, "a,1,y;a,2,w;B,1,z;b,2,x"},
		{some, []int{0, -2}, "a,2,w;a,1,y;b,2,x;B,1,z"},
		{some, []int{1, 0}, "a,1,y;B,1,z;a,2,w;b,2,x"},
		{some, []int{1, 1, -2}, "a,1,y;B,1,z;b,2,x;a,2,w"},
		{some, []int{-3, 0}, "B,1,z;a,1,y;b,2,x;a,2,w"},
		{"#N/A;TRUE;x;2;;FALSE;#DIV/0!;10", []int{0}, ";2;10;x;FALSE;TRUE;#DIV/0!;#N/A"},
		{"#N/A;TRUE;x;2;;FALSE;#DIV/0!;10", []int{-1}, "#N/A;#DIV/0!;TRUE;FALSE;x;10;2;"},
		{"a", []int{0, -1}, "a"},
		{"a,b", []int{-2}, "a,b"},
	} {
		got, err := pivot.Sort(table(t, c.table), c.cols)
		if written(got) != c.want || err != api.OK {
			t.Errorf("Sort of %s by %v: %s, error %d; want %s", c.table, c.cols, written(got), err, c.want)
		}
	}
	for _, cols := range [][]int{{2}, {-3}, {0, 1, 2}, {math.MinInt}, {math.MaxInt}, {0, -3}} {
		if got, err := pivot.Sort(table(t, "a,b;c,d"), cols); !val.Same(got, api.Val{}) || err != api.ErrPivot {
			t.Errorf("Sort by %v: %s, error %d", cols, written(got), err)
		}
	}
	for _, v := range noTables() {
		if got, err := pivot.Sort(v, nil); !val.Same(got, api.Val{}) || err != api.ErrPivot {
			t.Errorf("Sort of %+v: %s, error %d", v, written(got), err)
		}
	}
}

// P23.3: tables filtered.
func TestFilter(t *testing.T) {
	const some = "b,2;a,1;B,3;,2;7,;#N/A,9"
	for _, c := range []struct {
		col         int
		least, most string
		want        string
	}{
		{0, "b", "b", "b,2;B,3"}, {0, "a", "b", "b,2;a,1;B,3"}, {0, "", "9", ",2;7,"}, {0, "", "", ",2"}, {0, "8", "9", "#N/A"}, {0, "b", "a", "#N/A"},
		{1, "2", "3", "b,2;B,3;,2"}, {1, "1.5", "2.5", "b,2;,2"}, {1, "", "#N/A", some}, {1, "0", "1", "a,1"}, {0, "#N/A", "#N/A", "#N/A,9"}, {0, "FALSE", "TRUE", "#N/A"}, {1, "9", "9", "#N/A,9"},
	} {
		got, err := pivot.Filter(table(t, some), c.col, one(t, c.least), one(t, c.most))
		if written(got) != c.want || err != api.OK {
			t.Errorf("Filter of %d from %s to %s: %s, error %d; want %s", c.col, c.least, c.most, written(got), err, c.want)
		}
	}
	if got, err := pivot.Filter(table(t, some), 0, one(t, "8"), one(t, "9")); !val.Same(got, fault(api.VNA)) || err != api.OK {
		t.Errorf("Filter of no rows: %+v, error %d", got, err)
	}
	refuse := func(v api.Val, col int, least api.Val, most api.Val) {
		t.Helper()
		if got, err := pivot.Filter(v, col, least, most); !val.Same(got, api.Val{}) || err != api.ErrPivot {
			t.Errorf("Filter of %s by %d from %+v to %+v: %s, error %d", written(v), col, least, most, written(got), err)
		}
	}
	for _, v := range noTables() {
		refuse(v, 0, api.Val{}, api.Val{})
	}
	for _, col := range []int{-1, 2, math.MinInt, math.MaxInt} {
		refuse(table(t, some), col, api.Val{}, api.Val{})
	}
	for _, x := range append(noTables()[4:], table(t, "1"), api.Val{Kind: api.Num, N: api.Dec{M: 10}}, api.Val{Kind: 7}, api.Val{S: "x"}, api.Val{Kind: api.Text, S: "\n"}) {
		refuse(table(t, some), 0, x, api.Val{})
		refuse(table(t, some), 0, api.Val{}, x)
	}
}

// total is the sum of the numbers of a list.
func total(l []api.Val) api.Dec {
	sum := api.Dec{}
	for _, v := range l {
		if v.Kind == api.Num {
			sum, _ = dec.Add(sum, v.N)
		}
	}
	return sum
}

// inner are the values of a turned table without its head and its keys.
func inner(v api.Val) []api.Val {
	var list []api.Val
	for i, x := range v.L {
		if i >= v.Cols && i%v.Cols > 0 {
			list = append(list, x)
		}
	}
	return list
}

// P23.1 to P23.4 held against the chapter's words; and what follows of them.
func TestMany(t *testing.T) {
	d := dice(1)
	for range 3000 {
		text := d.table(d.below(2) == 0)
		v := table(t, text)
		row, col, value, how := d.below(v.Cols), d.below(v.Cols), d.below(v.Cols), 1+d.below(5)
		got, err := pivot.Turn(v, row, col, value, how)
		want, wrong := api.Val{}, api.ErrPivot
		if v.Rows > 1 {
			want, wrong = turned(v, row, col, value, how)
		}
		if !val.Same(got, want) || err != wrong {
			t.Fatalf("Turn of %s by %d, %d, %d of %d: %s, error %d; want %s", text, row, col, how, value, written(got), err, written(want))
		}
		cols := [][]int{nil, {row}, {-1 - row}, {row, -1 - col}, {-1 - row, col, value}}[d.below(5)]
		s, err := pivot.Sort(v, cols)
		if !val.Same(s, sorted(v, cols)) || err != api.OK {
			t.Fatalf("Sort of %s by %v: %s, error %d", text, cols, written(s), err)
		}
		if again, _ := pivot.Sort(s, cols); !val.Same(again, s) {
			t.Fatalf("%s, sorted by %v again: %s", written(s), cols, written(again))
		}
		least, most := one(t, d.value()), one(t, d.value())
		f, err := pivot.Filter(v, value, least, most)
		if !val.Same(f, filtered(v, value, least, most)) || err != api.OK {
			t.Fatalf("Filter of %s by %d: %s, error %d", text, value, written(f), err)
		}
		fs, _ := pivot.Sort(f, cols)
		sf, _ := pivot.Filter(s, value, least, most)
		if f.Kind == api.Array && !val.Same(fs, sf) || f.Kind != api.Array && !val.Same(f, sf) {
			t.Fatalf("%s filtered and sorted: %s; sorted and filtered: %s", text, written(fs), written(sf))
		}
	}
}

// P23.4: all sums, and all counts, of a turned table together are those of the column.
func TestTotals(t *testing.T) {
	d, done := dice(5), 0
	for range 1000 {
		v := table(t, d.table(true))
		row, col, value := d.below(v.Cols), d.below(v.Cols), d.below(v.Cols)
		sums, err := pivot.Turn(v, row, col, value, api.HowSum)
		if err != api.OK {
			continue
		}
		done++
		counts, _ := pivot.Turn(v, row, col, value, api.HowCount)
		var below []api.Val
		filled := 0
		for i := 1; i < v.Rows; i++ {
			x := v.L[i*v.Cols+value]
			below = append(below, x)
			if x.Kind != api.Empty {
				filled++
			}
		}
		many, _ := dec.Of(filled)
		if total(inner(sums)) != total(below) || total(inner(counts)) != many {
			t.Fatalf("of %s by %d, %d of %d: %s and %s", written(v), row, col, value, written(sums), written(counts))
		}
	}
	if done < 500 {
		t.Errorf("only %d tables are turned", done)
	}
}

// What is told is new memory, and what was handed in stays.
func TestMemory(t *testing.T) {
	for name, call := range map[string]func(v api.Val, cols []int) (api.Val, api.Errno){
		"Turn":   func(v api.Val, cols []int) (api.Val, api.Errno) { return pivot.Turn(v, 0, 1, 0, api.HowMost) },
		"Sort":   pivot.Sort,
		"Filter": func(v api.Val, cols []int) (api.Val, api.Errno) { return pivot.Filter(v, 0, api.Val{}, v.L[0]) },
	} {
		v := table(t, "9,b;7,a;8,b")
		v.L = append(make([]api.Val, 0, 20), v.L...)
		v.L[1].L = make([]api.Val, 0, 3)
		cols := []int{0, 1}
		got, err := call(v, cols)
		if err != api.OK {
			t.Errorf("%s: error %d", name, err)
		}
		for i := range got.L {
			if cap(got.L[i].L) > 0 {
				t.Errorf("%s: value %d shares room", name, i)
			}
			got.L[i] = api.Val{}
		}
		_ = append(got.L, api.Val{Kind: api.Truth})
		if written(v) != "9,b;7,a;8,b" || v.L[:7][6].Kind != api.Empty || cols[0] != 0 || cols[1] != 1 {
			t.Errorf("%s shares memory with what was handed in", name)
		}
	}
}
