package undo

import (
	"strings"

	"tabula/api"
	"tabula/fresh"
	"tabula/log"
	"tabula/op"
	"tabula/rebase"
	"tabula/tree"
	"tabula/wrong"
)

// walk is a log whose entries go along, one behind the other, with one that is taken back, or made again.
type walk struct {
	list   []api.Entry
	ground api.Book
	by     api.Op
}

// begin is a walk at the entry of that number.
func begin(b api.Book, l []api.Entry, k int) (*walk, error) {
	ground, errno := log.Replay(b, l[:k])
	return &walk{list: fresh.Log(l), ground: ground, by: l[k].Op}, wrong.Of(errno)
}

// takeBack marks what its author had taken back ahead of it: it can't be made again any more.
func takeBack(b api.Book, l []api.Entry, k int) ([]api.Entry, error) {
	w, err := begin(b, l, k)
	if err != nil {
		return nil, err
	}
	for i, e := range l[:k] {
		if e.Off && e.Author == l[k].Author {
			w.list[i].Again = mark(e.Op)
		}
	}
	w.list[k].Off, w.list[k].Again = true, fresh.Op(l[k].Op)
	return w.list, w.along(l, k, func(o api.Op) (api.Op, api.Op, api.Errno) {
		back, errno := rebase.Back(w.ground, o, w.by)
		return back, back, errno
	})
}

func makeAgain(b api.Book, l []api.Entry, k int) ([]api.Entry, error) {
	w, err := begin(b, l, k)
	if err != nil {
		return nil, err
	}
	w.list[k].Off, w.list[k].Again = false, api.Op{}
	return w.list, w.along(l, k, func(o api.Op) (api.Op, api.Op, api.Errno) {
		over, errno := rebase.Over(w.ground, o, w.by)
		return over, o, errno
	})
}

// along goes through the entries behind the one of that number; step tells what an operation becomes, and what it is without that one.
func (w *walk) along(l []api.Entry, k int, step func(o api.Op) (api.Op, api.Op, api.Errno)) error {
	for i, t := range travellers(l, k) {
		if t.state == asleep {
			return wrong.Of(api.ErrTangled)
		}
		next, without, errno := step(t.Op)
		if errno != api.OK {
			return wrong.Of(errno)
		}
		w.list[i].Op = next
		if t.Off {
			w.list[i].Again = fresh.Op(next)
			continue
		}
		err := w.pass(without)
		if wrong.Number(err) == api.ErrNothing {
			return nil
		}
		if err != nil {
			return err
		}
	}
	return nil
}

// pass takes what goes by behind an operation.
func (w *walk) pass(o api.Op) error {
	by, errno := rebase.Over(w.ground, w.by, o)
	if errno != api.OK {
		return wrong.Of(errno)
	}
	w.by = by
	w.ground, errno = op.Apply(w.ground, o)
	return wrong.Of(errno)
}

// mark is an operation that another one is not.
func mark(o api.Op) api.Op {
	if o.Kind == api.OpNoRule {
		return api.Op{Kind: api.OpSheetOut}
	}
	return api.Op{Kind: api.OpNoRule}
}

// isLike says whether logs are alike but for how formulas are written, and for what makes their entries again.
func isLike(a []api.Entry, b []api.Entry) bool {
	if len(a) != len(b) {
		return false
	}
	for i, x := range a {
		y := b[i]
		if x.Author != y.Author || x.Off != y.Off || !op.Same(plainly(x.Op), plainly(y.Op)) {
			return false
		}
	}
	return true
}

// plainly is an operation whose formulas are written in their one form.
func plainly(o api.Op) api.Op {
	o.S, o.Rule.Formula = printed(o.S), printed(o.Rule.Formula)
	return o
}

func printed(input string) string {
	rest, found := strings.CutPrefix(input, "=")
	n, _, errno := tree.Read(rest)
	if !found || errno != api.OK {
		return input
	}
	s, _ := tree.Print(n)
	return "=" + s
}
