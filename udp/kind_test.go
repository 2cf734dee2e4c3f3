package udp

import (
	"strings"
	"testing"

	"gangway/api"
)

// P7.1, P7.2: each kind of what is wrong has its error's number, also one that falls through to another.
func TestNumberOfEachKind(t *testing.T) {
	for k, want := range map[kind]api.Errno{
		none:      api.OK,
		noHead:    api.ErrUdpShort,
		noBody:    api.ErrUdpShort,
		badPort:   api.ErrUdpForm,
		longBody:  api.ErrUdpForm,
		badLength: api.ErrUdpForm,
		badSum:    api.ErrUdpSum,
	} {
		if e := number(k); e != want {
			t.Errorf("%d: %v, want %v", k, e, want)
		}
	}
}

// P7.1: the kind of what is wrong with a datagram.
func TestWrongTellsWhichKind(t *testing.T) {
	long := strings.Repeat("x", 65508)
	for _, x := range []struct {
		u    api.Udp
		want kind
	}{
		{api.Udp{}, none},
		{api.Udp{Src: -1}, badPort},
		{api.Udp{Dst: 65536}, badPort},
		{api.Udp{Body: long}, longBody},
		{api.Udp{Src: 65536, Body: long}, badPort},
	} {
		if k := wrong(x.u); k != x.want {
			t.Errorf("%d, %d, a body of %d: %d, want %d", x.u.Src, x.u.Dst, len(x.u.Body), k, x.want)
		}
	}
}

// P7.2: the first kind of what is wrong with bytes.
func TestFlawTellsWhichKind(t *testing.T) {
	for s, want := range map[string]kind{
		"\x00\x01\x00\x02\x00\x08\x00":             noHead,
		"\x00\x01\x00\x02\x00\x07\x00\x00":         badLength,
		"\x00\x01\x00\x02\x00\x09\x00\x00":         noBody,
		"\x00\x01\x00\x02\x00\x08\x00\x01":         badSum,
		"\x00\x01\x00\x02\x00\x08\x00\x00":         none,
		"\x00\x01\x00\x02\x00\x0a\x00\x00\x68\x69": none,
	} {
		if k := flaw(1, 2, s); k != want {
			t.Errorf("%x: %d, want %d", s, k, want)
		}
	}
}
