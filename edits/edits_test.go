package edits_test

import (
	"testing"

	"tabula/api"
	"tabula/edits"
)

func TestOf(t *testing.T) {
	for _, c := range []struct {
		o    api.Op
		want api.Shift
	}{
		{api.Op{Kind: api.OpRowsIn, Sheet: 3, Row: 4, N: 5}, api.Shift{Kind: api.ShRowsIn, Sheet: "S", At: 4, N: 5}},
		{api.Op{Kind: api.OpRowsOut, Sheet: 3, Row: 4, N: 5}, api.Shift{Kind: api.ShRowsOut, Sheet: "S", At: 4, N: 5}},
		{api.Op{Kind: api.OpColsIn, Sheet: 3, Col: 4, N: 5}, api.Shift{Kind: api.ShColsIn, Sheet: "S", At: 4, N: 5}},
		{api.Op{Kind: api.OpColsOut, Sheet: 3, Col: 4, N: 5}, api.Shift{Kind: api.ShColsOut, Sheet: "S", At: 4, N: 5}},
		{api.Op{Kind: api.OpSheetOut, Sheet: 3}, api.Shift{Kind: api.ShGone, Sheet: "S"}},
		{api.Op{Kind: api.OpRename, Sheet: 3, Name: "V"}, api.Shift{Kind: api.ShRename, Sheet: "S", Name: "V"}},
		{api.Op{Kind: api.OpSet, Row: 1, S: "x"}, api.Shift{}}, {api.Op{Kind: api.OpSheetIn, Name: "V"}, api.Shift{}}, {api.Op{Kind: api.OpNoRule, N: 1}, api.Shift{}}, {api.Op{}, api.Shift{}},
	} {
		if got := edits.Of(c.o, "S"); got != c.want {
			t.Errorf("of %+v: %+v; want %+v", c.o, got, c.want)
		}
	}
}
