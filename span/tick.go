package span

import "gangway/api"

// age lets what was heard and what is told be a tick older, and tells whether something that was heard was lost.
func age(s api.Span) bool {
	lost := false
	for i := range s.Ports {
		p := at(s, i+1)
		if p.Told {
			p.Left--
			if p.Left == 0 {
				p.Told, lost = false, true
			}
		}
		if p.Change > 0 {
			p.Change--
		}
	}
	return lost
}

// advance lets the ports that are to be opened wait a tick less.
func advance(s api.Span, forget forgetter) {
	for i := range s.Ports {
		port := i + 1
		p := at(s, port)
		if !mayForward(*p) || p.State == api.Forwarding {
			continue
		}
		p.Wait--
		if p.Wait > 0 {
			continue
		}
		if p.State == api.Discarding {
			p.State, p.Wait = api.Learning, delay
		} else {
			open(s, port, forget)
		}
	}
}

// greet lets the ports speak that others hang on, or that know of a change towards the root.
func greet(s api.Span, say sayer) {
	for i, p := range s.Ports {
		if p.Role == api.RoleDesignated || p.Role == api.RoleRoot && p.Change > 0 {
			say(i+1, message(s, i+1))
		}
	}
}
