package desk_test

import (
	"slices"
	"strconv"
	"strings"
	"testing"

	"tabula/api"
	"tabula/book"
	"tabula/calc"
	"tabula/code"
	"tabula/deps"
	"tabula/desk"
	logs "tabula/log"
	"tabula/mach"
	"tabula/ref"
	"tabula/tree"
	"tabula/val"
)

// places are those of all cells that have something to do with the small workbooks here.
func places() []api.At {
	var list []api.At
	for row := range 9 {
		for col := range 6 {
			list = append(list, api.At{Row: row, Col: col})
		}
	}
	return list
}

// seen is what a desk shows, by places, and its formulas' cells and trees.
type seen struct {
	vals     map[api.At]api.Val
	formulas map[api.At]string
	reads    map[api.At][]api.Area
	now      api.Dec
}

func look(t *testing.T, d *desk.Desk, now api.Dec) seen {
	t.Helper()
	s := seen{map[api.At]api.Val{}, map[api.At]string{}, map[api.At][]api.Area{}, now}
	b, err := d.Book()
	ok(t, err)
	for _, at := range places() {
		v, err := d.Value(at)
		ok(t, err)
		s.vals[at] = v
		input, err := book.Get(b, at)
		ok(t, err)
		if strings.HasPrefix(input, "=") {
			s.formulas[at] = input
			s.reads[at], err = deps.Reads(b, at)
			ok(t, err)
		}
	}
	return s
}

// changed are how many formulas have another text, another time that they ask for, or read a cell that shows another value.
func (s seen) changed(ahead seen) int {
	n := 0
	for at, input := range s.formulas {
		isOther := input != ahead.formulas[at] || strings.Contains(input, "NOW") && s.now != ahead.now
		for _, a := range s.reads[at] {
			for _, place := range places() {
				isOther = isOther || ref.Has(a, place) && !val.Same(s.vals[place], ahead.vals[place])
			}
		}
		if isOther {
			n++
		}
	}
	return n
}

// T1: as from nothing; and no formula is asked again of which nothing has changed.
func TestAsFromNothing(t *testing.T) {
	x, asked := dice(3), 0
	for range 30 {
		d, now := started(t, 32768, one()), api.Dec{}
		ahead := look(t, d, now)
		for range 30 {
			before := d.Asked()
			row, col := x.below(6), x.below(5)
			cell := func() string { return string(rune('A'+x.below(5))) + strconv.Itoa(row+2+x.below(3)) }
			input := x.one("1", "2", "x", "", "="+cell(), "="+cell()+"+1", "=SUM("+cell()+":"+cell()+")", "=IF("+cell()+">1,"+cell()+",7)", "=NOW()+"+cell(), "=SUM("+cell()+",1)")
			author, done := 1+x.below(2), api.OK
			switch x.below(9) {
			case 0:
				now = api.Dec{M: 1 + x.below(2)}
				done = d.Tick(now)
			case 1:
				done = d.Undo(author)
			case 2:
				done = d.Redo(author)
			default:
				done = d.Do(author, d.Version(), api.Op{Kind: api.OpSet, Row: row, Col: col, S: input})
			}
			after := look(t, d, now)
			if again := d.Asked() - before; again > after.changed(ahead) || done != api.OK && again > 0 {
				t.Fatalf("error %d: %d formulas are asked; %d have changed", done, again, after.changed(ahead))
			}
			asked += d.Asked() - before
			b, err := d.Book()
			ok(t, err)
			asIfNothing(t, d, b, now)
			ahead = after
		}
		ok(t, d.Sync())
		want, b := look(t, d, now), file(t, d)
		ok(t, d.Crash(nil))
		if got := look(t, d, now); file(t, d) != b || got.changed(want) > 0 {
			t.Fatal("opened anew it shows something else")
		}
	}
	if asked < 300 {
		t.Errorf("only %d formulas are asked", asked)
	}
}

// T2: who sees the same log sees the same workbook, byte for byte of its file; who sends against an elder version is taken as if all had been known.
func TestOneLog(t *testing.T) {
	x, moved := dice(5), 0
	for range 40 {
		b := sheets()
		first, second := started(t, 32768, b), started(t, 32768, b)
		var log []api.Entry
		for range 15 {
			author, base, o := 1+x.below(3), max(0, first.Version()-x.below(4)), x.op()
			err := first.Do(author, base, o)
			next, wrong := logs.Submit(b, log, author, base, o)
			if err != wrong {
				t.Fatalf("error %d; want %d", err, wrong)
			}
			if err != api.OK {
				continue
			}
			known := next[len(next)-1]
			moved += min(1, len(next)-base-1)
			log = next
			ok(t, second.Do(known.Author, second.Version(), known.Op))
		}
		seen, err := logs.Replay(b, log)
		ok(t, err)
		told, err := first.Book()
		ok(t, err)
		if file(t, first) != file(t, second) || !book.Same(told, seen) {
			t.Fatalf("of one log there are two workbooks: %+v and %+v", told, seen)
		}
	}
	if moved < 50 {
		t.Errorf("only %d operations were sent against elder versions", moved)
	}
}

// own is an operation that may be done beside others: an input, or rows.
func (d *dice) own() api.Op {
	if d.below(3) == 0 {
		return rowsIn(d.below(6), 1+d.below(2))
	}
	input := d.one("7", "x", "=A1", "=SUM(B2:C4)+1", "=$A$3")
	return api.Op{Kind: api.OpSet, Row: d.below(6), Col: d.below(3), S: input}
}

// T3: what an author takes back is gone as if it had never been, and nothing else; and made again, there is what there was.
func TestOwnUndo(t *testing.T) {
	x, told := dice(7), map[api.Errno]int{}
	for range 200 {
		with, without := started(t, 32768, sheets()), started(t, 32768, sheets())
		ok(t, with.Do(1, 0, x.own()))
		isAlike := true
		for i := range 1 + x.below(4) {
			o := x.own()
			isAlike = isAlike && with.Do(2, 0, o) == without.Do(2, 0, o) && without.Version() == i+1
		}
		if !isAlike {
			told[api.ErrNothing]++
			continue
		}
		before := file(t, with)
		err := with.Undo(1)
		told[err]++
		if err != api.OK {
			continue
		}
		if file(t, with) != file(t, without) {
			a, _ := with.Book()
			b, _ := without.Book()
			t.Fatalf("taken back there is %+v; without it %+v", a, b)
		}
		ok(t, with.Redo(1))
		if file(t, with) != before {
			t.Fatal("made again there is something else")
		}
	}
	if told[api.OK] < 120 {
		t.Errorf("told: %v", told)
	}
}

// along is a workbook of cells that each have another number, and of formulas on another sheet that each read one of them.
func along() api.Book {
	b := api.Book{Sheets: []api.Sheet{{Name: "S"}, {Name: "Reads"}}}
	for i := range 20 {
		row, col := 3*(i/4), 2*(i%4)
		b.Sheets[0].Cells = append(b.Sheets[0].Cells, api.Cell{Row: row, Col: col, Input: strconv.Itoa(100 + i)})
		place, _ := ref.Text(api.Ref{Sheet: "S", Row: row, Col: col, FixRow: i%2 == 0})
		b.Sheets[1].Cells = append(b.Sheets[1].Cells, api.Cell{Row: i, Input: "=" + place})
	}
	return b
}

// T4: each formula reads the cell that it read, wherever that stands now; what reads what is gone shows #REF!.
func TestGoAlong(t *testing.T) {
	x, gone, moved := dice(11), 0, 0
	for range 30 {
		d := started(t, 32768, along())
		for range 12 {
			row, n := x.below(15), 1+x.below(3)
			o := []api.Op{rowsIn(row, n), rowsOut(row, 1), {Kind: api.OpColsIn, Col: row / 2, N: n}, {Kind: api.OpColsOut, Col: row / 2, N: 1}, {Kind: api.OpRename, Name: x.one("S", "It's", "Two x")}, {Kind: api.OpSheetIn, Name: x.one("New", "Newer")}}[x.below(6)]
			if x.below(40) == 0 {
				o = api.Op{Kind: api.OpSheetOut}
			}
			b, err := d.Book()
			ok(t, err)
			if b.Sheets[0].Name == "Reads" {
				break
			}
			if err := d.Do(1+x.below(2), d.Version(), o); err != api.OK && err != api.ErrSheet && err != api.ErrShift {
				t.Fatalf("%+v: error %d", o, err)
			}
			there, reads := left(t, d)
			for i := range 20 {
				v, err := d.Value(api.At{Sheet: reads, Row: i})
				ok(t, err)
				got, _ := val.Text(v)
				want := strconv.Itoa(100 + i)
				if !there[want] {
					gone++
					want = "#REF!"
				}
				moved++
				if got != want {
					t.Fatalf("behind %+v formula %d shows %s; want %s", o, i, got, want)
				}
			}
		}
	}
	if gone < 500 || moved < 3*gone/2 {
		t.Errorf("%d of %d cells are gone", gone, moved)
	}
}

// left are the inputs that are left on all sheets, and the number of the sheet of formulas.
func left(t *testing.T, d *desk.Desk) (map[string]bool, int) {
	t.Helper()
	b, err := d.Book()
	ok(t, err)
	there := map[string]bool{}
	for _, s := range b.Sheets {
		for _, c := range s.Cells {
			there[c.Input] = true
		}
	}
	reads, found := book.Sheet(b, "Reads")
	if !found {
		t.Fatal("the formulas are gone")
	}
	return there, reads
}

// T5: what was synced is there behind each crash, and what there is then is a beginning of what there was.
func TestNothingIsLost(t *testing.T) {
	x, kept, lost := dice(13), 0, 0
	for range 60 {
		d := started(t, 32768, one())
		ok(t, d.Sync())
		files, sure := []string{file(t, d)}, 0
		for range 40 {
			switch x.below(9) {
			case 0:
				ok(t, d.Sync())
				sure = d.Version()
			case 1:
				crash(t, d, &x)
				if d.Version() < sure || d.Version() >= len(files) || file(t, d) != files[d.Version()] {
					t.Fatalf("version %d is left, of %d, %d of them synced", d.Version(), len(files)-1, sure)
				}
				kept, lost = kept+d.Version()-sure, lost+len(files)-1-d.Version()
				files, sure = files[:d.Version()+1], d.Version()
			case 2:
				if d.Undo(1+x.below(2)) == api.OK {
					files = append(files, file(t, d))
				}
			default:
				if d.Do(1+x.below(2), d.Version(), x.op()) == api.OK {
					files = append(files, file(t, d))
				}
			}
		}
	}
	if kept < 40 || lost < 100 {
		t.Errorf("only %d versions are kept that were not synced, and %d lost", kept, lost)
	}
}

// crash keeps the first pieces that are pending, as many as there are up to some number, of the last one half or all.
func crash(t *testing.T, d *desk.Desk, x *dice) {
	t.Helper()
	for n := x.below(12); n >= 0; n-- {
		var keep []int
		for k := range n {
			keep = append(keep, k)
		}
		if n > 0 && x.below(2) == 0 {
			keep[n-1] = -n
		}
		err := d.Crash(keep)
		if err == api.OK {
			return
		}
		if err != api.ErrKeep {
			t.Fatalf("Crash(%v): error %d", keep, err)
		}
	}
	t.Fatal("no crash is done")
}

// T6: what is printed of a formula is read as its tree; and its code does what it means, however it is written.
func TestFormulasAreOne(t *testing.T) {
	for formula, want := range map[string]string{
		"-2^2": "4", "2^3^2": "64", "50%": "0.5", "1-(2-3)": "2", "( 1 - 2 ) - 3": "-4", "1=1=TRUE": "TRUE", "\"a\"&1+2": "a3", "sum( a1:B2 , 3 )%": "0.13", "IF(A1,2)": "2", "LET(f,LAMBDA(n,IF(n<2,1,n*f(n-1))),f(5))": "120", "lambda(x,x+1)(2)*2": "6", "{1,2;3,4}*A1": "1", "-A1%": "-0.01", "2*-3": "-6", "IFERROR(1/0,$A$1+B2)": "5", "(A1)": "1", "1/3": "0.333333333", "let(x,2,y,x*x,y&\"\")": "'4", "#REF!": "#REF!", "S!A2": "3", "'S'!a2+0": "3",
	} {
		b := one()
		for i, input := range []string{"1", "2", "3", "4"} {
			b.Sheets[0].Cells = append(b.Sheets[0].Cells, api.Cell{Row: i / 2, Col: i % 2, Input: input})
		}
		d := started(t, 8192, b)
		n, _, err := tree.Read(formula)
		ok(t, err)
		printed, err := tree.Print(n)
		ok(t, err)
		if again, _, err := tree.Read(printed); !tree.Same(again, n) || err != api.OK {
			t.Errorf("%s is printed %s, and read as another tree", formula, printed)
		}
		ok(t, d.Do(1, 0, set(t, "D9", "="+formula)))
		ok(t, d.Do(1, 1, set(t, "D19", "=( "+printed+" )")))
		ok(t, d.Do(2, 2, rowsIn(0, 3)))
		ok(t, d.Do(2, 3, rowsOut(0, 2)))
		if shows(t, d, "D10") != want || shows(t, d, "D20") != want {
			t.Errorf("%s shows %s, and %s; want %s", formula, shows(t, d, "D10"), shows(t, d, "D20"), want)
		}
		c, err := code.Compile(n)
		ok(t, err)
		l, err := calc.Values(b, api.Dec{})
		ok(t, err)
		v, _, err := mach.Run(c, api.Frame{Sheets: []string{"S"}, Vals: l})
		ok(t, err)
		if s, _ := val.Text(val.Get(v, 0, 0)); s != want {
			t.Errorf("%s is run to %s; want %s", formula, s, want)
		}
	}
}

// DOC.md's examples 8 to 10: references go along, each one's own is taken back, and what was synced is there.
func TestExamplesOfTheWhole(t *testing.T) {
	b := one()
	b.Sheets[0].Cells = []api.Cell{{Input: "=B2"}}
	d := started(t, 4096, b)
	ok(t, d.Do(1, 0, rowsIn(1, 2)))
	input := func() string {
		b, err := d.Book()
		ok(t, err)
		s, err := book.Get(b, api.At{})
		ok(t, err)
		return s
	}
	if input() != "=B4" {
		t.Errorf("A1 is %s", input())
	}
	ok(t, d.Do(1, 1, rowsOut(3, 1)))
	if input() != "=#REF!" || shows(t, d, "A1") != "#REF!" {
		t.Errorf("A1 is %s, and shows %s", input(), shows(t, d, "A1"))
	}
	d = started(t, 4096, one())
	ok(t, d.Do(1, 0, set(t, "A1", "2")))
	ok(t, d.Do(2, 1, set(t, "B1", "=A1*3")))
	var list []string
	list = append(list, shows(t, d, "B1"))
	ok(t, d.Undo(1))
	list = append(list, shows(t, d, "B1"))
	ok(t, d.Redo(1))
	list = append(list, shows(t, d, "B1"))
	if !slices.Equal(list, []string{"6", "0", "6"}) {
		t.Errorf("B1 shows %v", list)
	}
	ok(t, d.Sync())
	ok(t, d.Do(3, 4, set(t, "C1", "9")))
	ok(t, d.Crash(nil))
	if shows(t, d, "B1") != "6" || shows(t, d, "C1") != "" || d.Version() != 4 {
		t.Errorf("B1 shows %s, C1 %s, version %d", shows(t, d, "B1"), shows(t, d, "C1"), d.Version())
	}
}
