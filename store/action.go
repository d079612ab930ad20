package store

import (
	"strconv"
	"strings"

	"tabula/api"
	"tabula/op"
)

// isAction says whether an entry may stand in a store: as it is put behind a log, or as an author takes back, or makes again.
func isAction(e api.Entry) bool {
	turn := api.Op{Kind: e.Op.Kind}
	isTurn := (turn.Kind == api.OpUndo || turn.Kind == api.OpRedo) && op.Same(e.Op, turn)
	isAuthor := e.Author >= 0 && e.Author < api.MaxAuthors
	return isAuthor && !e.Off && op.Same(e.Again, api.Op{}) && (isTurn || op.Right(e.Op))
}

// text is one that is written from the front.
type text struct {
	strings.Builder
}

func (t *text) numbers(list ...int) {
	for _, n := range list {
		t.WriteString(strconv.Itoa(n) + " ")
	}
}

func (t *text) texts(list ...string) {
	for _, s := range list {
		t.numbers(len(s))
		t.WriteString(s)
	}
}

// written is an entry as a record has it.
func written(e api.Entry) string {
	var w text
	o, t, r := e.Op, e.Op.Table, e.Op.Rule
	must := 0
	if r.Must {
		must = 1
	}
	w.numbers(o.Kind, o.Sheet, o.Row, o.Col, o.N)
	w.texts(o.S, o.Name, t.Name)
	w.numbers(t.Sheet, t.Row, t.Col, t.Rows, len(t.Cols))
	w.texts(t.Cols...)
	w.numbers(r.Area.Sheet, r.Area.Row, r.Area.Col, r.Area.Rows, r.Area.Cols)
	w.texts(r.Formula)
	w.numbers(r.Style, must, e.Author)
	return w.String()
}

// broken is what a reader is left by, where there is none of what it is to read.
type broken struct{}

// rest is what is left of a text that is read from the front.
type rest struct {
	text string
}

func (r *rest) number() int {
	digits, behind, found := strings.Cut(r.text, " ")
	n, err := strconv.Atoi(digits)
	if !found || err != nil {
		panic(broken{})
	}
	r.text = behind
	return n
}

func (r *rest) string() string {
	n := r.number()
	if n < 0 || n > len(r.text) {
		panic(broken{})
	}
	s := r.text[:n]
	r.text = r.text[n:]
	return s
}

// reader reads what written has written.
type reader struct {
	rest
}

// read is the entry that was written so; false, if none was.
func read(s string) (api.Entry, bool) {
	defer func() {
		left := recover()
		if _, isBroken := left.(broken); left != nil && !isBroken {
			panic(left)
		}
	}()
	r := reader{rest{s}}
	e := r.entry()
	return e, isAction(e) && written(e) == s
}

func (r *reader) entry() api.Entry {
	var e api.Entry
	o, t, area := &e.Op, &e.Op.Table, &e.Op.Rule.Area
	o.Kind, o.Sheet, o.Row, o.Col, o.N = r.number(), r.number(), r.number(), r.number(), r.number()
	o.S, o.Name, t.Name = r.string(), r.string(), r.string()
	t.Sheet, t.Row, t.Col, t.Rows = r.number(), r.number(), r.number(), r.number()
	for range r.number() {
		t.Cols = append(t.Cols, r.string())
	}
	area.Sheet, area.Row, area.Col, area.Rows, area.Cols = r.number(), r.number(), r.number(), r.number(), r.number()
	o.Rule.Formula = r.string()
	o.Rule.Style, o.Rule.Must, e.Author = r.number(), r.number() == 1, r.number()
	return e
}
