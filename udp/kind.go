package udp

import "gangway/api"

// kind is what may be wrong with a datagram, or with bytes: there are more kinds than numbers of errors.
type kind int

const (
	none kind = iota
	noHead
	noBody
	badPort
	longBody
	badLength
	badSum
)

// number is the error that a kind is told by: one without a number of its own falls through to the next one that has it.
func number(k kind) api.Errno {
	switch k {
	case noHead:
		fallthrough
	case noBody:
		return api.ErrUdpShort
	case badPort:
		fallthrough
	case longBody:
		fallthrough
	case badLength:
		return api.ErrUdpForm
	case badSum:
		return api.ErrUdpSum
	}
	return api.OK
}
