// Package wrong takes an error's number along as an error.
package wrong

import (
	"errors"
	"strconv"

	"tabula/api"
)

// number is an error that wraps its number.
type number struct {
	errno api.Errno
}

func (n number) Error() string {
	return "error " + strconv.Itoa(int(n.errno))
}

// Of is the error of a number; nil, if that is OK.
func Of(errno api.Errno) error {
	if errno == api.OK {
		return nil
	}
	return number{errno}
}

// Number is the number of an error, or of what it wraps; OK, if there is none.
func Number(err error) api.Errno {
	var n number
	if errors.As(err, &n) {
		return n.errno
	}
	return api.OK
}
