package calc

import (
	"slices"
	"strings"

	"tabula/api"
	"tabula/bare"
	"tabula/code"
	"tabula/deps"
	"tabula/names"
	"tabula/tree"
)

// formula is that of a cell: what its questions begin with, where it may read, and its code, which is made when it is asked first.
type formula struct {
	question api.Memo
	reads    []api.Area
	code     func() (api.Code, api.Errno)
}

// reader makes formulas. What a reference's sheet is hangs on the sheets alone.
type reader struct {
	*state
	sheets api.Book
}

// formula expands what was put into a cell in a workbook without the other cells: they make no difference to it. Where there is too much to be expanded, there is no tree, and so neither text nor areas nor code.
func (r reader) formula(at api.At, input string) formula {
	n, _, _ := names.Formula(bare.Cell(r.Book, at, input), at)
	text, _ := tree.Print(n)
	f := formula{question: api.Memo{At: at, Text: strings.Join(r.called, "\n") + "\n" + text}, code: compiled(n)}
	f.reads, _ = deps.Areas(n, r.sheets, at.Sheet)
	if asksTime(n) {
		f.question.Timed, f.question.Now = true, r.now
	}
	return f
}

// compiled makes a tree's code once.
func compiled(n api.Node) func() (api.Code, api.Errno) {
	made, c, err := false, api.Code{}, api.OK
	return func() (api.Code, api.Errno) {
		if !made {
			c, err = code.Compile(n)
			made = true
		}
		return c, err
	}
}

func asksTime(n api.Node) bool {
	return n.Kind == api.NCall && n.S == "NOW" || slices.ContainsFunc(n.Kids, asksTime)
}
