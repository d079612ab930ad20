package log

import (
	"iter"

	"tabula/api"
	"tabula/op"
)

// replay is a log that is being replayed: the entry that it is at, the workbook ahead of that, and what is wrong with the entry, if that ended it.
type replay struct {
	book api.Book
	at   int
	err  api.Errno
}

// entries goes through the numbers of those that are not off, up to one that can't be done.
func (r *replay) entries(l []api.Entry) iter.Seq[int] {
	return func(yield func(int) bool) {
		for i, e := range l {
			if e.Off {
				continue
			}
			r.at = i
			if !yield(i) {
				return
			}
			r.book, r.err = op.Apply(r.book, e.Op)
			if r.err != api.OK {
				return
			}
		}
	}
}
