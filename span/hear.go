package span

import (
	"gangway/api"
	"gangway/vectors"
)

// hear takes a message at a port that is up.
func hear(s api.Span, port int, b api.Bpdu, say sayer, forget forgetter) {
	p := at(s, port)
	p.Edge = false // another bridge is there
	if isOffer(b) {
		weigh(s, port, b, say, forget)
	}
	if isProposal(b) && (p.Role == api.RoleRoot || p.Role == api.RoleAlternate || p.Role == api.RoleBackup) {
		agree(s, port, say, forget)
	}
	if isAgreement(b) && p.Role == api.RoleDesignated {
		p.Agreed = true
		open(s, port, forget)
	}
	if (b.Kind == api.BpduChange || b.Change) && mayForward(*p) {
		change(s, port, forget)
	}
}

// weigh notes what an offer says, unless something better was heard from another one; then who made it is told what there is.
func weigh(s api.Span, port int, b api.Bpdu, say sayer, forget forgetter) {
	p, v := at(s, port), vectors.Of(b, port)
	if p.Told && vectors.Compare(v, p.V) > 0 && (v.Bridge != p.V.Bridge || v.Port != p.V.Port) {
		if p.Role == api.RoleDesignated {
			say(port, message(s, port))
		}
		return
	}
	p.Told, p.V, p.Left = true, v, hold
	settle(s, forget)
}

// agree lets a proposal be so: no circle can go through the ports that are begun, so that the one that it came at may forward at once.
func agree(s api.Span, port int, say sayer, forget forgetter) {
	for i, p := range s.Ports {
		if i+1 != port && p.Role == api.RoleDesignated && !p.Edge && !p.Agreed && p.State != api.Discarding {
			begin(s, i+1, forget)
		}
	}
	if at(s, port).Role == api.RoleRoot {
		open(s, port, forget)
	}
	b := message(s, port)
	b.Agree = true
	say(port, b)
}

// isOffer tells whether a message says how far the root is from a bridge that would be on the way, and is not too old for that.
func isOffer(b api.Bpdu) bool {
	return (b.Kind == api.BpduConfig || b.Kind == api.BpduRapid && b.Role == api.ToldDesignated) && b.Age < b.MaxAge
}

// isProposal tells whether a message asks for an agreement.
func isProposal(b api.Bpdu) bool { return isOffer(b) && b.Kind == api.BpduRapid && b.Propose }

// isAgreement tells whether a message is one.
func isAgreement(b api.Bpdu) bool {
	return b.Kind == api.BpduRapid && (b.Role == api.ToldRoot || b.Role == api.ToldBackup) && b.Agree
}
