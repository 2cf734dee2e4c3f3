package fdb

import "gangway/api"

const (
	macBits    = 48
	targetBits = 32
)

// keyOf is the key of an address in a VLAN, both of which may be noted.
func keyOf(vid int, mac uint64) uint64 { return uint64(vid)<<macBits | mac }

// valueOf is the value of what is a target.
func valueOf(to api.Target) uint64 { return uint64(to.Kind)<<targetBits | uint64(to.N) }

// targetOf is the target of such a value.
func targetOf(value uint64) api.Target {
	return api.Target{Kind: int(value >> targetBits), N: uint32(value)}
}

// placeOf is the place that an entry of such a key and such a value tells.
func placeOf(e api.Entry) api.Place {
	return api.Place{
		Vid:   int(e.Key >> macBits),
		Mac:   e.Key & (1<<macBits - 1),
		To:    targetOf(e.Value),
		At:    e.At,
		Fixed: e.Fixed,
	}
}
