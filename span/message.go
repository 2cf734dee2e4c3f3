package span

import (
	"gangway/api"
	"gangway/roles"
)

const (
	second    = 256 // a message tells times by 256ths
	farthest  = 1<<32 - 1
	saidAge   = 20 * second // how old what a message tells may become
	saidHello = 2 * second
	saidDelay = 4 * second
)

// message is what a port that there is says now.
func message(s api.Span, port int) api.Bpdu {
	p, v := at(s, port), roles.Says(s.Bridge, views(s), port)
	return api.Bpdu{
		Kind:    api.BpduRapid,
		Change:  p.Change > 0,
		Propose: p.Role == api.RoleDesignated && !p.Edge && p.State != api.Forwarding,
		Learn:   p.State == api.Learning || p.State == api.Forwarding,
		Forward: p.State == api.Forwarding,
		Role:    toldRole(p.Role),
		Root:    v.Root,
		Cost:    min(v.Cost, farthest), // more has no room in a message's bytes
		Bridge:  v.Bridge,
		Port:    v.Port,
		MaxAge:  saidAge,
		Hello:   saidHello,
		Delay:   saidDelay,
	}
}

// toldRole is how a message tells a role.
func toldRole(role int) int {
	switch role {
	case api.RoleDesignated:
		return api.ToldDesignated
	case api.RoleRoot:
		return api.ToldRoot
	case api.RoleBackup, api.RoleAlternate:
		return api.ToldBackup
	}
	return api.ToldNone
}
