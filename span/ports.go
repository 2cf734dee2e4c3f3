package span

import (
	"gangway/api"
	"gangway/roles"
)

type (
	forgetter func(port int)             // notes a port whose addresses are to be forgotten
	sayer     func(port int, b api.Bpdu) // notes a message that goes out at a port
)

// What is worked on below is a copy that a call has made: its ports are changed where they stand.

// settle lets the ports have the roles that come of what is known of them.
func settle(s api.Span, forget forgetter) {
	for i, role := range roles.All(s.Bridge, views(s)) {
		port := i + 1
		p := at(s, port)
		if p.Role == role {
			continue
		}
		p.Role = role
		if mayForward(*p) {
			begin(s, port, forget)
			continue
		}
		block(s, port, forget)
		p.Change = 0
	}
}

// block closes a port.
func block(s api.Span, port int, forget forgetter) {
	p := at(s, port)
	if p.State == api.Forwarding {
		forget(port)
	}
	p.State, p.Wait, p.Agreed = api.Discarding, 0, false
}

// begin closes a port that is to be opened behind two delays, or, if nobody else is there, opens it.
func begin(s api.Span, port int, forget forgetter) {
	block(s, port, forget)
	p := at(s, port)
	if p.Role == api.RoleDesignated && p.Edge {
		p.State = api.Forwarding
		return
	}
	p.Wait = delay
}

// open opens a port; that it was not open is a change.
func open(s api.Span, port int, forget forgetter) {
	p := at(s, port)
	was := p.State
	p.State, p.Wait = api.Forwarding, 0
	if was != api.Forwarding {
		change(s, port, forget)
	}
}

// change lets all other ports tell of a change at a port.
func change(s api.Span, port int, forget forgetter) {
	for i := range s.Ports {
		other := i + 1
		p := at(s, other)
		if other != port && p.Up && !p.Edge {
			p.Change = long
			forget(other)
		}
	}
}

// mayForward tells whether a port has a role that lets it learn and forward.
func mayForward(p api.SpanPort) bool {
	return p.Role == api.RoleRoot || p.Role == api.RoleDesignated
}

// views are what is known of the ports.
func views(s api.Span) []api.View {
	out := make([]api.View, 0, len(s.Ports))
	for _, p := range s.Ports {
		out = append(out, p.View)
	}
	return out
}
