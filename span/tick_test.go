package span_test

import (
	"slices"
	"testing"

	"gangway/api"
	"gangway/span"
)

// P15.5: the chapter's example: one port, up.
func TestExample(t *testing.T) {
	r := live(t, 1)
	if p := r.port(1); p.Role != designated || p.State != closed || p.Wait != 4 {
		t.Errorf("%+v", p)
	}
	for i, want := range []struct{ state, wait int }{{closed, 3}, {closed, 2}, {closed, 1}, {learning, 4}, {learning, 3}, {learning, 2}, {learning, 1}, {open, 0}, {open, 0}, {open, 0}} {
		d := r.tick()
		if p := r.port(1); p.State != want.state || p.Wait != want.wait || r.s.Now != i+1 {
			t.Errorf("tick %d: %+v", i+1, r.s)
		}
		flushed(t, d)
		if i%2 == 0 {
			saidAt(t, d)
			continue
		}
		b := told(1)
		b.Learn, b.Forward, b.Propose = want.state != closed, want.state == open, want.state != open
		if !slices.Equal(d.Said, []api.Said{{Port: 1, B: b}}) {
			t.Errorf("tick %d: %+v", i+1, d)
		}
	}
}

// P15.6, P15.5: alone all ports that are up forward behind 8 ticks, whenever they came up, and no other ones.
func TestAlone(t *testing.T) {
	for late := range 5 {
		r := made(t, 64, 5, 6, 40)
		r.ticks(late)
		for port := 1; port <= 64; port++ {
			if port%7 > 0 {
				r.up(port, true)
			}
		}
		for i := range 9 {
			for port := 1; port <= 64; port++ {
				want := min(i/4, 2)
				if r.port(port).Edge {
					want = open
				}
				if port%7 == 0 {
					want = closed
				}
				if p := r.port(port); p.State != want || p.Up != (port%7 > 0) {
					t.Fatalf("%d ticks later: port %d is %+v", i, port, p)
				}
			}
			r.tick()
		}
	}
}

// P15.5: what was heard holds for six ticks.
func TestHold(t *testing.T) {
	r := live(t, 2)
	r.hear(1, best())
	for left := 6; left > 0; left-- {
		if p := r.port(1); !p.Told || p.Left != left || p.Role != root {
			t.Fatalf("%+v, want Left %d", p, left)
		}
		r.tick()
	}
	if p := unheard(r.port(1)); p != (api.SpanPort{View: api.View{Up: true, Cost: 10}, Role: designated, State: closed, Wait: 3}) {
		t.Errorf("%+v", p) // begun, and a tick waited
	}
	if b := r.message(2); b.Root != me || b.Cost != 0 {
		t.Errorf("%+v", b)
	}
	r.hear(1, best())
	r.ticks(5)
	r.hear(1, best()) // in time
	r.ticks(5)
	r.roles(root, designated)
	r.tick()
	r.roles(designated, designated)
}

// P15.5: several ports lose in one tick what was heard: the roles are those of what is left.
func TestLoseMany(t *testing.T) {
	r := live(t, 5)
	for range 8 {
		r.hear(1, best())
		r.hear(2, next())
		r.hear(3, self())
		r.tick()
	}
	r.hear(4, offer(60, 0, 60, 1)) // it holds a tick longer
	r.roles(root, alternate, backup, designated, designated)
	r.states(open, closed, closed, open, open)
	r.changes(4, 4, 4, 4, 4)
	for range 4 {
		flushed(t, r.tick())
	}
	r.roles(root, alternate, backup, designated, designated)
	d := r.tick()
	r.roles(designated, designated, designated, designated, designated)
	r.states(closed, closed, closed, open, open)
	r.waits(3, 3, 3, 0, 0) // begun, and a tick waited
	flushed(t, d, 1)
	if !r.port(4).Told || r.port(4).Left != 1 {
		t.Errorf("%+v", r.port(4))
	}
	r.tick()
	if p := r.port(4); p.Told || p.State != open {
		t.Errorf("%+v", p)
	}
}

// P15.5: only the root port loses what was heard: the alternate one, of which something is still heard, is the next.
func TestLoseRoot(t *testing.T) {
	r := live(t, 3)
	r.hear(1, best())
	for range 6 {
		r.hear(2, next())
		r.tick()
	}
	r.roles(designated, root, designated)
	r.states(closed, closed, learning)
	r.waits(3, 3, 2)
	r.hear(2, next())
	if b := r.message(1); b.Root != 1 || b.Cost != 35 {
		t.Errorf("%+v", b)
	}
}

// P15.5: a change is told for four ticks, whatever the port is.
func TestChangeLasts(t *testing.T) {
	for _, before := range []int{0, 20} { // closed ports, open ones
		r := live(t, 4).ticks(before)
		r.hear(2, best())
		r.hear(3, next())
		r.hear(4, self())
		r.hear(1, api.Bpdu{Kind: api.BpduChange})
		for left := 4; left >= 0; left-- {
			r.roles(designated, root, alternate, backup)
			r.changes(0, left, left, left)
			r.tick()
		}
	}
}

// P15.5: who is root or designated waits, who is neither does not; an opened port is a change for the others, in order.
func TestWaits(t *testing.T) {
	r := live(t, 4)
	r.hear(1, agreement(api.ToldRoot)) // it forwards
	flushed(t, r.up(4, false))
	for range 4 {
		r.hear(2, best())
		r.hear(3, next())
		r.tick()
	}
	r.up(4, true)
	r.hear(4, self())
	r.roles(designated, root, alternate, backup)
	r.states(open, learning, closed, closed)
	r.waits(0, 4, 0, 0)
	r.changes(0, 0, 0, 0)
	for wait := 3; wait > 0; wait-- {
		flushed(t, r.tick())
		r.states(open, learning, closed, closed)
		r.waits(0, wait, 0, 0)
	}
	d := r.tick()
	r.states(open, open, closed, closed)
	r.waits(0, 0, 0, 0)
	flushed(t, d, 1, 3, 4)
	r.changes(4, 0, 4, 4) // told now: it is not a tick less
	saidAt(t, d, 1)
}

// P15.5: ports that are opened in one tick are each a change for the others.
func TestOpenedTogether(t *testing.T) {
	r := live(t, 4, 3)
	r.up(4, false)
	r.ticks(7)
	d := r.tick()
	flushed(t, d, 1, 2)
	r.changes(4, 4, 0, 0)
	var said []api.Said
	for port := 1; port <= 3; port++ {
		b := told(port)
		b.Learn, b.Forward, b.Change = true, true, port < 3
		said = append(said, api.Said{Port: port, B: b})
	}
	if !slices.Equal(d.Said, said) { // said behind all that: as the ports are then
		t.Errorf("%+v, want %+v", d.Said, said)
	}
	r = live(t, 1)
	r.ticks(7)
	flushed(t, r.tick()) // one alone: there is nobody to tell
	r.changes(0)
}

// P15.5: a wait of 0 or less, as no call makes it, ends in the next tick.
func TestWaitOver(t *testing.T) {
	for _, wait := range []int{1, 0, -1, -9} {
		r := live(t, 2)
		r.s.Ports[0].Wait = wait
		r.tick()
		r.states(learning, closed)
		r.waits(4, 3)
		r.s.Ports[0].Wait = wait
		r.tick()
		r.states(open, closed)
		r.waits(0, 2)
		r.changes(0, 4)
	}
}

// P15.5: at every even tick designated ports speak, in order, the root port if it tells of a change, no other one.
func TestHello(t *testing.T) {
	r := live(t, 7, 6)
	r.up(7, false)
	r.hear(2, best())
	r.hear(3, next())
	r.hear(4, self())
	r.roles(designated, root, alternate, backup, designated, designated, down)
	saidAt(t, r.tick())
	saidAt(t, r.tick(), 1, 5, 6)
	r.hear(1, api.Bpdu{Kind: api.BpduChange})
	r.changes(0, 4, 4, 4, 4, 0, 0)
	saidAt(t, r.tick())
	d := r.tick()
	saidAt(t, d, 1, 2, 5, 6)
	for _, x := range d.Said {
		if x.B != r.message(x.Port) {
			t.Errorf("%+v, want %+v", x, r.message(x.Port))
		}
	}
	saidAt(t, r.tick())
	r.hear(2, best())
	r.changes(0, 1, 1, 1, 1, 0, 0)
	r.hear(3, next())
	saidAt(t, r.tick(), 1, 4, 5, 6) // its change was told to the end; port 4 is designated again, as nothing is heard there
	r.roles(designated, root, alternate, designated, designated, designated, down)
}

// P15.5: the time goes on, whatever else there is.
func TestNow(t *testing.T) {
	r := made(t, 2, 1)
	for i := 1; i < 20; i++ {
		if d := r.tick(); r.s.Now != i || !sameDone(d, api.Done{}) {
			t.Errorf("tick %d: %+v, %+v", i, r.s, d)
		}
		if !slices.Equal(r.s.Ports, made(t, 2, 1).s.Ports) {
			t.Errorf("tick %d: %+v", i, r.s)
		}
	}
	for _, port := range []int{1, 2} {
		r.up(port, true)
		r.hear(port, best())
		if r.s.Now != 19 {
			t.Errorf("%+v", r.s)
		}
	}
}

// calls are one of each kind, that change a lot, of a span.
func calls(s api.Span) []func(s api.Span) (api.Span, api.Done) {
	var out []func(s api.Span) (api.Span, api.Done)
	for port := range s.Ports {
		for _, is := range []bool{false, true} {
			out = append(out, func(s api.Span) (api.Span, api.Done) {
				then, d, _ := span.Up(s, port+1, is)
				return then, d
			})
		}
		for _, b := range []api.Bpdu{best(), next(), self(), proposal(0, 0, 2, 2), agreement(api.ToldRoot), {Kind: api.BpduChange}, {Kind: 9}} {
			out = append(out, func(s api.Span) (api.Span, api.Done) {
				then, d, _ := span.Hear(s, port+1, b)
				return then, d
			})
		}
	}
	return append(out, span.Tick, func(s api.Span) (api.Span, api.Done) {
		_, _ = span.Message(s, 1)
		return span.Copy(s), api.Done{}
	})
}

// spoil writes over all that an answer has room for.
func spoil(s api.Span, d api.Done) {
	for i := range s.Ports[:cap(s.Ports)] {
		s.Ports[:cap(s.Ports)][i] = api.SpanPort{Left: -9, Role: 77}
	}
	for i := range d.Said[:cap(d.Said)] {
		d.Said[:cap(d.Said)][i] = api.Said{Port: -9}
	}
	for i := range d.Flush[:cap(d.Flush)] {
		d.Flush[:cap(d.Flush)][i] = -9
	}
}

// R4, R5: what is handed in stays, with the room behind it; what is answered may be written over, and is the same when it is asked for again.
func TestMemory(t *testing.T) {
	for _, k := range kinds() {
		s := standing(t, k[0], k[1]).s
		room := slices.Repeat([]api.SpanPort{{Left: 5, Role: 9}}, 9)
		copy(room, s.Ports)
		s.Ports = room[:3]
		was := slices.Clone(room)
		for i, f := range calls(s) {
			first, d := f(s)
			then, again := f(s)
			if !alike(first, then) || !sameDone(d, again) {
				t.Fatalf("call %d: %+v, %+v, then %+v, %+v", i, first, d, then, again)
			}
			keep := slices.Clone(first.Ports)
			said, flush := slices.Clone(d.Said), slices.Clone(d.Flush)
			spoil(then, again)
			if !slices.Equal(room, was) {
				t.Fatalf("call %d: it became %+v", i, room)
			}
			if !slices.Equal(first.Ports, keep) || !slices.Equal(d.Said, said) || !slices.Equal(d.Flush, flush) {
				t.Fatalf("call %d: the first answer became %+v, %+v", i, first, d)
			}
		}
	}
	costs, edges := []int{5, 6, 7, 8}[:2], []bool{true, false, true, false}[:2]
	s, _ := span.New(9, costs, edges)
	spoil(s, api.Done{})
	if !slices.Equal(costs[:4], []int{5, 6, 7, 8}) || !slices.Equal(edges[:4], []bool{true, false, true, false}) {
		t.Errorf("it became %v, %v", costs[:4], edges[:4])
	}
	s, _ = span.New(9, costs, edges)
	costs[0], edges[0] = 99, false
	if p := s.Ports[0]; p.Cost != 5 || !p.Edge {
		t.Errorf("the span became %+v", s)
	}
}
