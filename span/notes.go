package span

import (
	"maps"
	"slices"

	"gangway/api"
)

// notes are what a call has done so far: what was said, in order, and the ports whose addresses are to be forgotten, however often that was noted.
type notes struct {
	said  []api.Said
	flush map[int]struct{}
}

// newNotes are those of a call that has done nothing yet.
func newNotes() *notes { return &notes{flush: map[int]struct{}{}} }

// say notes a message that goes out at a port.
func (n *notes) say(port int, b api.Bpdu) { n.said = append(n.said, api.Said{Port: port, B: b}) }

// forget notes a port whose addresses are to be forgotten.
func (n *notes) forget(port int) { n.flush[port] = struct{}{} }

// done is all that was noted.
func (n *notes) done() api.Done {
	return api.Done{Said: n.said, Flush: slices.Sorted(maps.Keys(n.flush))}
}
