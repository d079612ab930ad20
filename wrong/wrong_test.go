package wrong_test

import (
	"errors"
	"testing"

	"tabula/api"
	"tabula/wrong"
)

type wrap struct{ err error }

func (w wrap) Error() string { return "wrapped " + w.err.Error() }
func (w wrap) Unwrap() error { return w.err }

// A number goes into an error, and comes out of it, wrapped or not.
func TestWrong(t *testing.T) {
	for _, n := range []api.Errno{api.ErrNil, api.ErrArg, api.ErrLimit, api.ErrDesk} {
		err := wrong.Of(n)
		if err == nil || wrong.Number(err) != n || wrong.Number(wrap{err}) != n {
			t.Errorf("error %d: %v", n, err)
		}
	}
	if wrong.Of(api.OK) != nil || wrong.Number(nil) != api.OK || wrong.Number(errors.New("other")) != api.OK {
		t.Error("no error has a number")
	}
	if s := wrong.Of(api.ErrArg).Error(); s != "error 2" {
		t.Errorf("text: %q", s)
	}
}
