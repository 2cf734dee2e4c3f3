package inet

import (
	"errors"

	"gangway/api"
)

// fault is an error's number, wrapped with the part of a packet that is odd.
type fault struct {
	part string
	why  api.Errno
}

func (f fault) Error() string { return f.why.Error() + ": " + f.part }

func (f fault) Unwrap() error { return f.why }

// number is the error's number that err wraps.
func number(err error) api.Errno {
	if err == nil {
		return api.OK
	}
	var e api.Errno
	if errors.As(err, &e) {
		return e
	}
	return api.ErrInetForm // what tells no number is still no success
}
