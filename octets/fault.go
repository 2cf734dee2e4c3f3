package octets

import (
	"errors"
	"strconv"

	"gangway/api"
)

// fault is an error's number, wrapped with the place or the size at which it was met.
type fault struct {
	at  int
	why api.Errno
}

func (f fault) Error() string { return f.why.Error() + " at " + strconv.Itoa(f.at) }

func (f fault) Unwrap() error { return f.why }

// number is the error's number that err wraps.
func number(err error) api.Errno {
	var e api.Errno
	if errors.As(err, &e) {
		return e
	}
	return api.ErrArg // what tells no number is still no success
}
