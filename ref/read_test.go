package ref_test

import (
	"regexp"
	"slices"
	"strconv"
	"strings"
	"testing"
	"unicode/utf8"

	"tabula/api"
	"tabula/ref"
)

var written = regexp.MustCompile(`\A(?:([A-Za-z_][A-Za-z0-9_]*)!|'((?:[^']|'')+)'!)?(\$?)([A-Za-z]{1,2})(\$?)([1-9][0-9]{0,2})\z`)

var columns = strings.Fields("A B C D E F G H I J K L M N O P Q R S T U V W X Y Z AA AB AC AD AE AF AG AH AI AJ AK AL AM AN AO AP AQ AR AS AT AU AV AW AX AY AZ")

// said is what P2.4 says of a text, by an expression in place of a reader.
func said(s string) (api.Ref, bool) {
	if s == "#REF!" {
		return api.Ref{Bad: true}, true
	}
	m := written.FindStringSubmatch(s)
	if m == nil || !utf8.ValidString(s) {
		return api.Ref{}, false
	}
	sheet := m[1] + strings.ReplaceAll(m[2], "''", "'")
	if len(sheet) > 30 || strings.ContainsFunc(sheet, func(c rune) bool { return c < 32 || c == 127 }) {
		return api.Ref{}, false
	}
	row, _ := strconv.Atoi(m[6])
	col := slices.Index(columns, strings.ToUpper(m[4]))
	if row > 200 || col < 0 {
		return api.Ref{}, false
	}
	return api.Ref{Sheet: sheet, Row: row - 1, Col: col, FixRow: m[5] != "", FixCol: m[3] != ""}, true
}

func checkRead(t *testing.T, s string) {
	t.Helper()
	want, ok := said(s)
	r, err := ref.Read(s)
	if r != want || ok != (err == api.OK) || !ok && err != api.ErrRef {
		t.Errorf("Read(%q): %+v, error %d; want %+v, %v", s, r, err, want, ok)
	}
}

// P2.4: texts that say a reference.
func TestRead(t *testing.T) {
	for s, want := range map[string]api.Ref{
		"A1": {}, "a1": {}, "b3": {Row: 2, Col: 1}, "AZ200": {Row: 199, Col: 51}, "az200": {Row: 199, Col: 51}, "aZ9": {Row: 8, Col: 51}, "Az10": {Row: 9, Col: 51},
		"$A1": {FixCol: true}, "A$1": {FixRow: true}, "$a$1": {FixCol: true, FixRow: true}, "#REF!": {Bad: true},
		"S!A1": {Sheet: "S"}, "s_9!$b$2": {Sheet: "s_9", Row: 1, Col: 1, FixRow: true, FixCol: true}, "_!A1": {Sheet: "_"}, "A1!B2": {Sheet: "A1", Row: 1, Col: 1}, "TRUE!A1": {Sheet: "TRUE"},
		"'S'!A1": {Sheet: "S"}, "'_a9'!a1": {Sheet: "_a9"}, "'Two x'!$B$3": {Sheet: "Two x", Row: 2, Col: 1, FixRow: true, FixCol: true}, "'It''s'!$AB$5": {Sheet: "It's", Row: 4, Col: 27, FixRow: true, FixCol: true},
		"''''!A1": {Sheet: "'"}, "''''''!A1": {Sheet: "''"}, "'a!b'!A1": {Sheet: "a!b"}, "'!'!A1": {Sheet: "!"}, "'''!'!A1": {Sheet: "'!"}, "' '!A1": {Sheet: " "}, "'é'!A1": {Sheet: "é"}, "'#REF!'!A1": {Sheet: "#REF!"},
	} {
		if r, err := ref.Read(s); r != want || err != api.OK {
			t.Errorf("Read(%q): %+v, error %d; want %+v", s, r, err, want)
		}
	}
	long, most := strings.Repeat("x", 31), strings.Repeat("x", 30)
	for _, s := range []string{
		"", "A", "1", "$", "A0", "B0", "B00", "B201", "B999", "B1000", "B03", "B001", "BA1", "ZZ1", "AAA1", "1A", "A-1", "A+1", "A1.0", "A 1", " A1", "A1 ", "A1B", "A1$", "$$A1", "A$$1", "$A$", "A1!", "!A1", "''!A1", "'!A1", "'S!A1", "S'!A1", "'S'A1", "'S' !A1", "'S'!", "S!", "S!!A1", "S!T!A1", "9!A1", "9a!A1", "a.b!A1", "$a!A1", "a b!A1", "é!A1", "Two x!A1", "It's!A1", "'It's'!A1", "S!#REF!", "'S'!#REF!",
		"#ref!", "#Ref!", "#REF", "#REF!A1", " #REF!", "S!A1:B2", "A1:B2", "é1", "Aé1", "A١", "\xff", "A1\x00", "'a\x00'!A1", "'\n'!A1", "'\x7f'!A1", "'\xff'!A1", "'\xed\xa0\x80'!A1", long + "!A1", "'" + long + "'!A1", "'" + strings.Repeat("é", 16) + "'!A1", "A" + strings.Repeat("1", 5000), "A99999999999999999999", "'" + strings.Repeat("'", 4999), "\u212a1",
	} {
		if r, err := ref.Read(s); r != (api.Ref{}) || err != api.ErrRef {
			t.Errorf("Read(%q): %+v, error %d; want ErrRef", s, r, err)
		}
		checkRead(t, s)
	}
	for _, s := range []string{most + "!A1", "'" + most + "'!A1", "'" + strings.Repeat("''", 30) + "'!A1", "'" + strings.Repeat("''", 31) + "'!A1"} {
		checkRead(t, s)
	}
	for row := range 300 {
		checkRead(t, "B"+strconv.Itoa(row))
	}
}

// P2.4: texts that hardly say a reference, or hardly do not.
func TestReadNear(t *testing.T) {
	d := dice(2)
	signs := []string{"A", "a", "Z", "z", "B", "0", "1", "2", "9", "$", "!", "'", "''", "_", " ", "#", "REF", ".", "é", "\xff", "\x00", "\x7f", "S!", "'S'!", "A1", "200", "201"}
	for range 200000 {
		s := ""
		for range d.below(7) {
			s += signs[d.below(len(signs))]
		}
		checkRead(t, s)
	}
	for _, r := range rights() {
		s, _ := ref.Text(r)
		for range 10 {
			i := d.below(len(s))
			checkRead(t, s[:i]+s[i+1:])
			checkRead(t, s[:i]+signs[d.below(len(signs))]+s[i:])
			checkRead(t, s[:i]+signs[d.below(len(signs))]+s[i+1:])
		}
	}
}

// P2.8: Read undoes Text, also with small letters, and with apostrophes that need not be.
func TestReadBack(t *testing.T) {
	for _, r := range rights() {
		s, _ := ref.Text(r)
		if back, err := ref.Read(s); back != r || err != api.OK {
			t.Errorf("Read(%q): %+v, error %d; want %+v", s, back, err, r)
		}
		if r.Bad {
			continue
		}
		cell := s[strings.LastIndex(s, "!")+1:]
		sheet := ""
		if r.Sheet != "" {
			sheet = "'" + strings.ReplaceAll(r.Sheet, "'", "''") + "'!"
		}
		if back, err := ref.Read(sheet + strings.ToLower(cell)); back != r || err != api.OK {
			t.Errorf("Read(%q): %+v, error %d; want %+v", sheet+strings.ToLower(cell), back, err, r)
		}
	}
}
