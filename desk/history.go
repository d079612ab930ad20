package desk

import (
	"slices"

	"tabula/api"
	"tabula/store"
	"tabula/undo"
	"tabula/wrong"
)

// history is a store, the log that its entries make, and how long that was at each version.
type history struct {
	store   *store.Store
	log     []api.Entry
	lengths []int
}

// turn is how authors take back, or make again.
type turn struct {
	kind int
	do   func(b api.Book, l []api.Entry, author int) ([]api.Entry, api.Errno)
}

// turnOf is that of a kind of operations; false, if they are done as they are.
func turnOf(kind int) (turn, bool) {
	for _, t := range []turn{{api.OpUndo, undo.Undo}, {api.OpRedo, undo.Redo}} {
		if t.kind == kind {
			return t, true
		}
	}
	return turn{}, false
}

func newHistory(s *store.Store) history {
	h := history{store: s, lengths: []int{0}}
	h.take(s.Entries()...)
	return h
}

// take takes entries, one behind the other. One that can't be taken makes a version, but no other log.
func (h *history) take(entries ...api.Entry) {
	for _, e := range entries {
		l, err := h.behind(e)
		if err != nil {
			l = h.log
		}
		h.become(l)
	}
}

// behind is the log behind an entry of the store.
func (h *history) behind(e api.Entry) ([]api.Entry, error) {
	t, isTurn := turnOf(e.Op.Kind)
	if !isTurn {
		return append(h.log, e), nil
	}
	l, errno := t.do(h.store.Book(), h.log, e.Author)
	return l, wrong.Of(errno)
}

// become is the next version.
func (h *history) become(l []api.Entry) {
	h.log = l
	h.lengths = append(h.lengths, len(l))
}

func (h *history) version() int {
	return len(h.lengths) - 1
}

// lengthAt is how long the log was at a version that may be built on.
func (h *history) lengthAt(version int) (int, error) {
	if version < first(h.store.Entries()...) || version > h.version() {
		return 0, wrong.Of(api.ErrBase)
	}
	return h.lengths[version], nil
}

// first is the first version that may be built on: what authors saw ahead of the last turn is no beginning of the log any more.
func first(entries ...api.Entry) int {
	version := 0
entries:
	for i, e := range slices.Backward(entries) {
		if _, isTurn := turnOf(e.Op.Kind); isTurn {
			version = i + 1
			break entries
		}
	}
	return version
}

// isStarted holds as each workbook has a sheet.
func (h *history) isStarted() bool {
	return len(h.store.Book().Sheets) > 0
}

// shown is the workbook that the log makes.
func (h *history) shown() (api.Book, error) {
	b, errno := undo.Book(h.store.Book(), h.log)
	return b, wrong.Of(errno)
}
