package ether

import (
	"errors"

	"gangway/api"
)

// fault is an error's number, wrapped with the part of a frame in which it was met.
type fault struct {
	part string
	why  api.Errno
}

func (f fault) Error() string { return f.why.Error() + ": " + f.part }

func (f fault) Unwrap() error { return f.why }

// number is this layer's number of what err wraps.
func number(err error) api.Errno {
	if err == nil {
		return api.OK
	}
	if errors.Is(err, api.ErrOctetsShort) { // octets tells what is short by a number of its own
		return api.ErrEtherShort
	}
	var e api.Errno
	if errors.As(err, &e) {
		return e
	}
	return api.ErrEtherForm // what tells no number is still no success
}
