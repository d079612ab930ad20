package ref_test

import (
	"math"
	"strings"
	"testing"

	"tabula/api"
	"tabula/ref"
)

// dice are numbers that look like chance, and are the same in each run.
type dice uint64

func (d *dice) below(n int) int {
	*d = *d*6364136223846793005 + 1442695040888963407
	return int(uint64(*d)>>33) % n
}

// rights are right references: all fields at their edges, and names of each sort.
func rights() []api.Ref {
	list := []api.Ref{{Bad: true}}
	for _, sheet := range []string{"", "S", "_", "a_1", "Sheet1", "A1", "TRUE", "Two x", "1st", "It's", "'", "''", "a!b", "é", "日本", " ", "a.b", "$", "#REF!", strings.Repeat("x", 30), strings.Repeat("'", 30), strings.Repeat("é", 15)} {
		for _, row := range []int{0, 1, 8, 9, 98, 99, 199} {
			for _, col := range []int{0, 25, 26, 51} {
				for fix := range 4 {
					list = append(list, api.Ref{Sheet: sheet, Row: row, Col: col, FixRow: fix&1 > 0, FixCol: fix&2 > 0})
				}
			}
		}
	}
	return list
}

// wrongs are references that are not right.
func wrongs() []api.Ref {
	list := []api.Ref{
		{Row: -1}, {Row: 200}, {Row: math.MinInt}, {Row: math.MaxInt}, {Col: -1}, {Col: 52}, {Col: math.MinInt}, {Col: math.MaxInt}, {Sheet: "S", Row: 200}, {Sheet: "S", Col: 52},
		{Bad: true, Sheet: "S"}, {Bad: true, Row: 1}, {Bad: true, Col: 1}, {Bad: true, FixRow: true}, {Bad: true, FixCol: true}, {Bad: true, Row: -1},
	}
	for _, name := range wrongNames() {
		list = append(list, api.Ref{Sheet: name})
	}
	return list
}

func wrongNames() []string {
	return []string{strings.Repeat("x", 31), strings.Repeat("é", 15) + "x", "a\x00", "\x1f", "a\nb", "\t", "\x7f", "a\x7fb", "\xff", "a\xc3", "\xed\xa0\x80", "\xc0\xaf", "\xf4\x90\x80\x80"}
}

// P2.1: columns by their letters.
func TestColumn(t *testing.T) {
	const letters = "ABCDEFGHIJKLMNOPQRSTUVWXYZ"
	for n := range 52 {
		want := letters[n%26 : n%26+1]
		if n > 25 {
			want = "A" + want
		}
		if s, err := ref.Column(n); s != want || err != api.OK {
			t.Errorf("Column(%d): %q, error %d; want %q", n, s, err, want)
		}
		small := strings.ToLower(want)
		for _, s := range []string{want, small, small[:1] + want[1:], want[:1] + small[1:]} {
			if got, err := ref.ReadColumn(s); got != n || err != api.OK {
				t.Errorf("ReadColumn(%q): %d, error %d; want %d", s, got, err, n)
			}
		}
	}
	for _, n := range []int{-1, -2, 52, 53, 77, 78, 702, math.MaxInt, math.MinInt} {
		if s, err := ref.Column(n); s != "" || err != api.ErrRef {
			t.Errorf("Column(%d): %q, error %d; want ErrRef", n, s, err)
		}
	}
	for _, s := range []string{"", "BA", "ba", "BZ", "ZZ", "AAA", "AAZ", "A1", "1", "$A", "A ", " A", "@", "[", "`", "{", "A@", "A[", "é", "\xff", "ı", "\u212a", "ſ", "A\x00", "Aé", strings.Repeat("A", 100), strings.Repeat("z", 5000)} {
		if n, err := ref.ReadColumn(s); n != 0 || err != api.ErrRef {
			t.Errorf("ReadColumn(%q): %d, error %d; want ErrRef", s, n, err)
		}
	}
	for a := range 256 {
		for b := range 256 {
			s := string([]byte{byte(a), byte(b)})
			n, err := ref.ReadColumn(s)
			ok := a&^32 == 'A' && b&^32 >= 'A' && b&^32 <= 'Z'
			if ok != (err == api.OK) || ok && n != b&^32-'A'+26 || !ok && (n != 0 || err != api.ErrRef) {
				t.Errorf("ReadColumn(%q): %d, error %d", s, n, err)
			}
		}
	}
}

// P2.2: which references are right.
func TestRight(t *testing.T) {
	for _, r := range rights() {
		if !ref.Right(r) {
			t.Errorf("Right(%+v) is false", r)
		}
	}
	for _, r := range wrongs() {
		if ref.Right(r) {
			t.Errorf("Right(%+v) is true", r)
		}
	}
	for c := range 256 {
		r := api.Ref{Sheet: string([]byte{'a', byte(c)})}
		if want := c >= 32 && c < 127; ref.Right(r) != want {
			t.Errorf("Right(%+v) is %v", r, !want)
		}
	}
}

// P2.3: references as texts.
func TestText(t *testing.T) {
	for _, c := range []struct {
		r    api.Ref
		want string
	}{
		{api.Ref{}, "A1"},
		{api.Ref{Bad: true}, "#REF!"},
		{api.Ref{Row: 199, Col: 51}, "AZ200"},
		{api.Ref{Row: 9, Col: 26, FixRow: true}, "AA$10"},
		{api.Ref{Row: 99, Col: 25, FixCol: true}, "$Z100"},
		{api.Ref{Row: 4, Col: 27, FixRow: true, FixCol: true}, "$AB$5"},
		{api.Ref{Sheet: "It's", Row: 4, Col: 27, FixRow: true, FixCol: true}, "'It''s'!$AB$5"},
		{api.Ref{Sheet: "Two x", Row: 2, Col: 1, FixRow: true, FixCol: true}, "'Two x'!$B$3"},
		{api.Ref{Sheet: "S"}, "S!A1"},
		{api.Ref{Sheet: "_"}, "_!A1"},
		{api.Ref{Sheet: "z_9Z"}, "z_9Z!A1"},
		{api.Ref{Sheet: "B2"}, "B2!A1"},
		{api.Ref{Sheet: "9"}, "'9'!A1"},
		{api.Ref{Sheet: "9a"}, "'9a'!A1"},
		{api.Ref{Sheet: "a.b"}, "'a.b'!A1"},
		{api.Ref{Sheet: "$a"}, "'$a'!A1"},
		{api.Ref{Sheet: "a-b"}, "'a-b'!A1"},
		{api.Ref{Sheet: " "}, "' '!A1"},
		{api.Ref{Sheet: "é"}, "'é'!A1"},
		{api.Ref{Sheet: "aé"}, "'aé'!A1"},
		{api.Ref{Sheet: "\u212a"}, "'\u212a'!A1"},
		{api.Ref{Sheet: "a!b"}, "'a!b'!A1"},
		{api.Ref{Sheet: "'"}, "''''!A1"},
		{api.Ref{Sheet: "''"}, "''''''!A1"},
		{api.Ref{Sheet: strings.Repeat("'", 30), Row: 199, Col: 51}, strings.Repeat("'", 62) + "!AZ200"},
	} {
		if s, err := ref.Text(c.r); s != c.want || err != api.OK {
			t.Errorf("Text(%+v): %q, error %d; want %q", c.r, s, err, c.want)
		}
	}
	for _, r := range wrongs() {
		if s, err := ref.Text(r); s != "" || err != api.ErrRef {
			t.Errorf("Text(%+v): %q, error %d; want ErrRef", r, s, err)
		}
	}
}

// P2.7: references in a formula that is copied.
func TestMoved(t *testing.T) {
	for _, c := range []struct {
		r          api.Ref
		rows, cols int
		want       api.Ref
		err        api.Errno
	}{
		{api.Ref{}, 0, 0, api.Ref{}, api.OK},
		{api.Ref{}, 199, 51, api.Ref{Row: 199, Col: 51}, api.OK},
		{api.Ref{}, 200, 0, api.Ref{}, api.ErrRef},
		{api.Ref{}, 0, 52, api.Ref{}, api.ErrRef},
		{api.Ref{}, -1, 0, api.Ref{}, api.ErrRef},
		{api.Ref{}, 0, -1, api.Ref{}, api.ErrRef},
		{api.Ref{Row: 199, Col: 51}, -199, -51, api.Ref{}, api.OK},
		{api.Ref{Row: 199, Col: 51}, 1, 0, api.Ref{}, api.ErrRef},
		{api.Ref{Row: 199, Col: 51}, 0, 1, api.Ref{}, api.ErrRef},
		{api.Ref{Sheet: "S", Row: 5, Col: 6}, 2, -3, api.Ref{Sheet: "S", Row: 7, Col: 3}, api.OK},
		{api.Ref{Row: 5, Col: 6, FixRow: true}, 900, -3, api.Ref{Row: 5, Col: 3, FixRow: true}, api.OK},
		{api.Ref{Row: 5, Col: 6, FixCol: true}, 2, -300, api.Ref{Row: 7, Col: 6, FixCol: true}, api.OK},
		{api.Ref{Row: 5, Col: 6, FixRow: true, FixCol: true}, math.MaxInt, math.MinInt, api.Ref{Row: 5, Col: 6, FixRow: true, FixCol: true}, api.OK},
		{api.Ref{Row: 5, Col: 6, FixRow: true}, 0, 60, api.Ref{}, api.ErrRef},
		{api.Ref{Row: 5, Col: 6, FixCol: true}, 200, 0, api.Ref{}, api.ErrRef},
		{api.Ref{Bad: true}, math.MaxInt, 5, api.Ref{Bad: true}, api.OK},
		{api.Ref{Row: 199, Col: 51}, math.MaxInt, 0, api.Ref{}, api.ErrRef},
		{api.Ref{Row: 199, Col: 51}, 0, math.MaxInt, api.Ref{}, api.ErrRef},
		{api.Ref{Row: 199, Col: 51}, math.MinInt, math.MinInt, api.Ref{}, api.ErrRef},
		{api.Ref{Row: 1}, math.MaxInt, math.MaxInt, api.Ref{}, api.ErrRef},
	} {
		if got, err := ref.Moved(c.r, c.rows, c.cols); got != c.want || err != c.err {
			t.Errorf("Moved(%+v, %d, %d): %+v, error %d", c.r, c.rows, c.cols, got, err)
		}
	}
	for _, r := range wrongs() {
		for _, n := range []int{0, 1, -1, -200, math.MaxInt} {
			if got, err := ref.Moved(r, n, n); got != (api.Ref{}) || err != api.ErrRef {
				t.Errorf("Moved(%+v, %d, %d): %+v, error %d; want ErrRef", r, n, n, got, err)
			}
		}
	}
}

// P2.8: what is moved, and moved back, is as it was.
func TestMovedBack(t *testing.T) {
	d := dice(1)
	for _, r := range rights() {
		for range 20 {
			rows, cols := d.below(401)-200, d.below(105)-52
			there, err := ref.Moved(r, rows, cols)
			if err != api.OK {
				continue
			}
			if back, err := ref.Moved(there, -rows, -cols); back != r || err != api.OK {
				t.Errorf("Moved(%+v, %d, %d) and back: %+v, error %d", r, rows, cols, back, err)
			}
		}
	}
}
