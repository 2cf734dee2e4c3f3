package ether

import (
	"errors"
	"testing"

	"gangway/api"
)

// outer wraps a fault once more.
type outer struct{ error }

func (o outer) Unwrap() error { return o.error }

// P4.1, P4.2: an error's number is found behind what wraps it; what octets found short is told by this layer's number.
func TestNumberIsFoundBehindWraps(t *testing.T) {
	for _, x := range []struct {
		err  error
		want api.Errno
	}{
		{nil, api.OK},
		{api.ErrOctetsShort, api.ErrEtherShort},
		{fault{"body", api.ErrOctetsShort}, api.ErrEtherShort},
		{outer{fault{"body", api.ErrOctetsShort}}, api.ErrEtherShort},
		{fault{"body", api.ErrEtherShort}, api.ErrEtherShort},
		{fault{"tag", api.ErrEtherForm}, api.ErrEtherForm},
		{outer{fault{"tag", api.ErrEtherForm}}, api.ErrEtherForm},
		{errors.New("no number"), api.ErrEtherForm},
	} {
		if e := number(x.err); e != x.want {
			t.Errorf("%v: %v, want %v", x.err, e, x.want)
		}
	}
}

func TestFaultTellsWhichPart(t *testing.T) {
	if s := (fault{"tag", api.ErrEtherForm}).Error(); s != "error 41: tag" {
		t.Errorf("%q", s)
	}
}

// P4.2: the part that is short is the first one that has not all its bytes.
func TestReadTellsWhichPart(t *testing.T) {
	const head = "\x01\x02\x03\x04\x05\x06\x02\x00\x00\x00\x00\x01"
	for s, want := range map[string]fault{
		"":                                   {"address", api.ErrOctetsShort},
		head[:11]:                            {"address", api.ErrOctetsShort},
		head + "\x08":                        {"type", api.ErrOctetsShort},
		head + "\x81\x00\x00":                {"tag", api.ErrOctetsShort},
		head + "\x81\x00\x00\x01\x08":        {"type", api.ErrOctetsShort},
		head + "\x81\x00\x00\x01\x81\x00":    {"type", api.ErrEtherForm},
		head + "\x81\x00\x00\x01\x00\x02one": {},
		head + "\x00\x02a":                   {"body", api.ErrOctetsShort},
	} {
		_, err := read(s)
		if want == (fault{}) {
			if err != nil {
				t.Errorf("%q: %v", s, err)
			}
			continue
		}
		if err != error(want) {
			t.Errorf("%q: %v, want %v", s, err, want)
		}
	}
}
