package ether

import (
	"gangway/api"
	"gangway/octets"
)

// reader takes parts of bytes, one behind the other, and keeps the first fault: who reads asks for it once, at the end.
type reader struct {
	s   string
	at  int
	err error
}

// number is the number that the next n bytes are.
func (r *reader) number(part string, n int) uint64 {
	v, e := octets.Get(r.s, r.at, n)
	r.took(part, n, e)
	return v
}

// bytes are the next n bytes.
func (r *reader) bytes(part string, n int) string {
	b, e := octets.Cut(r.s, r.at, n)
	r.took(part, n, e)
	return b
}

// took goes on behind a part of n bytes, and notes what octets said of it.
func (r *reader) took(part string, n int, e api.Errno) {
	r.at += n
	if r.err == nil && e != api.OK {
		r.err = fault{part, e}
	}
}
