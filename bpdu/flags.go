package bpdu

import "gangway/api"

// The flags, one bit each, but for the role, which has two.
const (
	flagChange = 1 << iota
	flagPropose
	flagRole
	flagRoleHigh
	flagLearn
	flagForward
	flagAgree
	flagAck
	flagsEnd
)

const (
	configFlags = flagChange | flagAck
	rapidFlags  = flagsEnd - 1
	roleFlags   = flagRole | flagRoleHigh
)

// flags are a message's flags together; its role is one that has room there.
func flags(b api.Bpdu) int {
	return flag(b.Change, flagChange) | flag(b.Propose, flagPropose) | b.Role*flagRole |
		flag(b.Learn, flagLearn) | flag(b.Forward, flagForward) | flag(b.Agree, flagAgree) | flag(b.Ack, flagAck)
}

// flag is a flag that is set, or none.
func flag(is bool, bit int) int {
	if is {
		return bit
	}
	return 0
}

// unflag is the message that has these flags, and nothing else.
func unflag(v int) api.Bpdu {
	return api.Bpdu{
		Change:  v&flagChange != 0,
		Propose: v&flagPropose != 0,
		Role:    (v & roleFlags) / flagRole,
		Learn:   v&flagLearn != 0,
		Forward: v&flagForward != 0,
		Agree:   v&flagAgree != 0,
		Ack:     v&flagAck != 0,
	}
}
