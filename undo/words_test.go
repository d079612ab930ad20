package undo_test

import (
	"strings"

	"tabula/api"
	"tabula/log"
	"tabula/op"
	"tabula/rebase"
	"tabula/tree"
)

// ground is the workbook that the entries ahead of one make that are on.
func ground(b api.Book, l []api.Entry, i int) api.Book {
	for _, e := range l[:i] {
		if !e.Off {
			b, _ = op.Apply(b, e.Op)
		}
	}
	return b
}

func isDead(l []api.Entry, i int) bool {
	if !l[i].Off {
		return false
	}
	for _, e := range l[i:] {
		if e.Author == l[i].Author && !e.Off {
			return true
		}
	}
	return !op.Same(l[i].Op, l[i].Again)
}

func sleeps(l []api.Entry, i int) bool {
	for j, e := range l[:i] {
		if l[i].Off && !isDead(l, i) && e.Author == l[i].Author && e.Off && !isDead(l, j) {
			return true
		}
	}
	return false
}

// takenBack is a log without the entry k, as the chapter's words say.
func takenBack(b api.Book, l []api.Entry, k int) ([]api.Entry, api.Errno) {
	next := append([]api.Entry(nil), l...)
	for i := range k {
		if next[i].Off && next[i].Author == l[k].Author {
			next[i].Again = api.Op{Kind: api.OpNoRule}
			if next[i].Op.Kind == api.OpNoRule {
				next[i].Again = api.Op{Kind: api.OpSheetOut}
			}
		}
	}
	next[k].Off, next[k].Again = true, l[k].Op
	by := l[k].Op
	for i := k + 1; i < len(l); i++ {
		x := ground(b, next, i)
		if isDead(l, i) || l[i].Off && l[i].Author == l[k].Author {
			continue
		}
		if sleeps(l, i) {
			return nil, api.ErrTangled
		}
		o, err := rebase.Back(x, l[i].Op, by)
		if err != api.OK {
			return nil, err
		}
		next[i].Op = o
		if l[i].Off {
			next[i].Again = o
			continue
		}
		by, err = rebase.Over(x, by, o)
		if err == api.ErrNothing {
			break
		}
		if err != api.OK {
			return nil, err
		}
	}
	return next, api.OK
}

// madeAgain is a log with the entry k, as the chapter's words say.
func madeAgain(b api.Book, l []api.Entry, k int) ([]api.Entry, api.Errno) {
	next := append([]api.Entry(nil), l...)
	next[k].Off, next[k].Again = false, api.Op{}
	by := l[k].Op
	for i := k + 1; i < len(l); i++ {
		x := ground(b, l, i)
		if isDead(l, i) || l[i].Off && l[i].Author == l[k].Author {
			continue
		}
		if sleeps(l, i) {
			return nil, api.ErrTangled
		}
		o, err := rebase.Over(x, l[i].Op, by)
		if err != api.OK {
			return nil, err
		}
		next[i].Op = o
		if l[i].Off {
			next[i].Again = o
			continue
		}
		by, err = rebase.Over(x, by, l[i].Op)
		if err == api.ErrNothing {
			break
		}
		if err != api.OK {
			return nil, err
		}
	}
	return next, api.OK
}

func one(s string) string {
	if n, _, err := tree.Read(strings.TrimPrefix(s, "=")); strings.HasPrefix(s, "=") && err == api.OK {
		text, _ := tree.Print(n)
		return "=" + text
	}
	return s
}

func alike(a []api.Entry, b []api.Entry) bool {
	for i := range a {
		x, y := a[i].Op, b[i].Op
		x.S, y.S, x.Rule.Formula, y.Rule.Formula = one(x.S), one(y.S), one(x.Rule.Formula), one(y.Rule.Formula)
		if a[i].Author != b[i].Author || a[i].Off != b[i].Off || !op.Same(x, y) {
			return false
		}
	}
	return len(a) == len(b)
}

// undone is what P21.1 says, word by word, of a log that is right.
func undone(b api.Book, l []api.Entry, author int) ([]api.Entry, api.Errno) {
	k := -1
	for i, e := range l {
		if e.Author == author && !e.Off {
			k = i
		}
	}
	if k < 0 {
		return nil, api.ErrUndo
	}
	next, err := takenBack(b, l, k)
	if err != api.OK {
		return nil, err
	}
	if _, err := log.Check(b, next); err != api.OK {
		return nil, api.ErrTangled
	}
	if again, err := madeAgain(b, next, k); err != api.OK || !alike(again, l) {
		return nil, api.ErrTangled
	}
	return next, api.OK
}

// redone is what P21.2 says, word by word, of a log that is right.
func redone(b api.Book, l []api.Entry, author int) ([]api.Entry, api.Errno) {
	k := -1
	for i, e := range l {
		if e.Author == author && e.Off && !isDead(l, i) && k < 0 {
			k = i
		}
	}
	if k < 0 {
		return nil, api.ErrUndo
	}
	next, err := madeAgain(b, l, k)
	if err != api.OK {
		return nil, err
	}
	if _, err := log.Check(b, next); err != api.OK {
		return nil, api.ErrTangled
	}
	if again, err := takenBack(b, next, k); err != api.OK || !alike(again, l) {
		return nil, api.ErrTangled
	}
	return next, api.OK
}
