// Package edits makes structural edits of the operations that are such: what does an operation, and what takes others along with it, have to mean the same one.
package edits

import "tabula/api"

// Of is the structural edit of an operation, of a sheet of that name; none, if it is of no such kind.
func Of(o api.Op, sheet string) api.Shift {
	s := api.Shift{Sheet: sheet, N: o.N, Name: o.Name}
	switch o.Kind {
	case api.OpRowsIn:
		s.Kind, s.At = api.ShRowsIn, o.Row
	case api.OpRowsOut:
		s.Kind, s.At = api.ShRowsOut, o.Row
	case api.OpColsIn:
		s.Kind, s.At = api.ShColsIn, o.Col
	case api.OpColsOut:
		s.Kind, s.At = api.ShColsOut, o.Col
	case api.OpSheetOut:
		s.Kind = api.ShGone
	case api.OpRename:
		s.Kind = api.ShRename
	default:
		return api.Shift{}
	}
	return s
}
