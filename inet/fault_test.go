package inet

import (
	"errors"
	"strings"
	"testing"

	"gangway/api"
)

// outer wraps a fault once more.
type outer struct{ error }

func (o outer) Unwrap() error { return o.error }

// P6.1, P6.2: an error's number is found behind what wraps it.
func TestNumberIsFoundBehindWraps(t *testing.T) {
	for _, x := range []struct {
		err  error
		want api.Errno
	}{
		{nil, api.OK},
		{api.ErrInetSum, api.ErrInetSum},
		{fault{"body", api.ErrInetShort}, api.ErrInetShort},
		{fault{"tos", api.ErrInetForm}, api.ErrInetForm},
		{outer{fault{"sum", api.ErrInetSum}}, api.ErrInetSum},
		{outer{outer{fault{"body", api.ErrInetShort}}}, api.ErrInetShort},
		{errors.New("no number"), api.ErrInetForm},
	} {
		if e := number(x.err); e != x.want {
			t.Errorf("%v: %v, want %v", x.err, e, x.want)
		}
	}
}

func TestFaultTellsWhichPart(t *testing.T) {
	if s := (fault{"sum", api.ErrInetSum}).Error(); s != "error 62: sum" {
		t.Errorf("%q", s)
	}
}

// P6.1: the part of a packet that may not be is told.
func TestWrongTellsWhichPart(t *testing.T) {
	for part, p := range map[string]api.Ip{
		"tos":    {Tos: 256},
		"ttl":    {Ttl: 256},
		"proto":  {Proto: 256},
		"id":     {Id: 65536},
		"offset": {Off: 8192},
		"body":   {Body: strings.Repeat("x", 65516)},
	} {
		if err := wrong(p); err != error(fault{part, api.ErrInetForm}) {
			t.Errorf("%s: %v", part, err)
		}
	}
	if err := wrong(api.Ip{}); err != nil {
		t.Error(err)
	}
}

// P6.2: the first part of bytes that is odd is told.
func TestFlawTellsWhichPart(t *testing.T) {
	const fine = "\x45\x00\x00\x14\x00\x00\x00\x00\x40\x11\x66\xd7\x0a\x00\x00\x01\x0a\x00\x00\x02"
	for s, want := range map[string]fault{
		fine[:19]:          {"head", api.ErrInetShort},
		"\x44" + fine[1:]:  {"version", api.ErrInetForm},
		fine[:19] + "\x03": {"sum", api.ErrInetSum},
		fine[:3] + "\x13" + fine[4:10] + "\x66\xd8" + fine[12:]: {"length", api.ErrInetForm},
		fine[:6] + "\x80" + fine[7:10] + "\xe6\xd6" + fine[12:]: {"flags", api.ErrInetForm},
		fine[:3] + "\x15" + fine[4:10] + "\x66\xd6" + fine[12:]: {"body", api.ErrInetShort},
	} {
		if err := flaw(s); err != error(want) {
			t.Errorf("%x: %v, want %v", s, err, want)
		}
	}
	if err := flaw(fine); err != nil {
		t.Error(err)
	}
}
