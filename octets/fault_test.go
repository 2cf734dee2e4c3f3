package octets

import (
	"errors"
	"testing"

	"gangway/api"
)

// outer wraps a fault once more.
type outer struct{ error }

func (o outer) Unwrap() error { return o.error }

func TestNumberIsFoundBehindWraps(t *testing.T) {
	for _, x := range []struct {
		err  error
		want api.Errno
	}{
		{api.ErrOctetsShort, api.ErrOctetsShort},
		{fault{7, api.ErrOctetsText}, api.ErrOctetsText},
		{outer{fault{7, api.ErrOctetsShort}}, api.ErrOctetsShort},
		{errors.New("no number"), api.ErrArg},
	} {
		if e := number(x.err); e != x.want {
			t.Errorf("%v: %v, want %v", x.err, e, x.want)
		}
	}
}

func TestFaultTellsWhere(t *testing.T) {
	if s := (fault{-3, api.ErrOctetsShort}).Error(); s != "error 10 at -3" {
		t.Errorf("%q", s)
	}
}
