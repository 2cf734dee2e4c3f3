package span_test

import (
	"math"
	"slices"
	"testing"

	"gangway/api"
	"gangway/bpdu"
	"gangway/span"
)

const (
	down       = api.RoleDown
	backup     = api.RoleBackup
	alternate  = api.RoleAlternate
	designated = api.RoleDesignated
	root       = api.RoleRoot

	closed   = api.Discarding
	learning = api.Learning
	open     = api.Forwarding

	me       = 50 // the bridge of most tests
	lastWord = math.MaxUint64
)

// run is a span that something happens to, once and again.
type run struct {
	t *testing.T
	s api.Span
}

// made is a span of that many ports that cost 10, all down; those named are edges.
func made(t *testing.T, ports int, edges ...int) *run {
	t.Helper()
	costs, are := make([]int, ports), make([]bool, ports)
	for i := range costs {
		costs[i] = 10
		are[i] = slices.Contains(edges, i+1)
	}
	s, e := span.New(me, costs, are)
	if e != api.OK {
		t.Fatal(e)
	}
	return &run{t, s}
}

// live is such a one, with all ports up.
func live(t *testing.T, ports int, edges ...int) *run {
	t.Helper()
	r := made(t, ports, edges...)
	for port := 1; port <= ports; port++ {
		r.up(port, true)
	}
	return r
}

// alike tells whether two spans are the same.
func alike(a, b api.Span) bool {
	return a.Bridge == b.Bridge && a.Now == b.Now && slices.Equal(a.Ports, b.Ports)
}

// sameDone tells whether two are.
func sameDone(a, b api.Done) bool {
	return slices.Equal(a.Said, b.Said) && slices.Equal(a.Flush, b.Flush)
}

func (r *run) up(port int, is bool) api.Done {
	r.t.Helper()
	s, d, e := span.Up(r.s, port, is)
	if e != api.OK {
		r.t.Fatal(port, e)
	}
	r.s = s
	return d
}

func (r *run) hear(port int, b api.Bpdu) api.Done {
	r.t.Helper()
	s, d, e := span.Hear(r.s, port, b)
	if e != api.OK {
		r.t.Fatal(port, e)
	}
	r.s = s
	return d
}

func (r *run) tick() api.Done {
	s, d := span.Tick(r.s)
	r.s = s
	return d
}

func (r *run) ticks(n int) *run {
	for range n {
		r.tick()
	}
	return r
}

// hearing lets n ticks go by, and an offer be heard at a port ahead of each.
func (r *run) hearing(n, port int, b api.Bpdu) *run {
	r.t.Helper()
	for range n {
		r.hear(port, b)
		r.tick()
	}
	return r
}

func (r *run) port(n int) api.SpanPort { return r.s.Ports[n-1] }

// unheard is a port without what was heard there, if that does not hold any more: it makes no difference then.
func unheard(p api.SpanPort) api.SpanPort {
	if !p.Told {
		p.V, p.Left = api.Vector{}, 0
	}
	return p
}

func (r *run) message(port int) api.Bpdu {
	r.t.Helper()
	b, e := span.Message(r.s, port)
	if e != api.OK {
		r.t.Fatal(port, e)
	}
	return b
}

// each is something of each port.
func each(s api.Span, f func(p api.SpanPort) int) []int {
	var out []int
	for _, p := range s.Ports {
		out = append(out, f(p))
	}
	return out
}

func (r *run) roles(want ...int) {
	r.t.Helper()
	if l := each(r.s, func(p api.SpanPort) int { return p.Role }); !slices.Equal(l, want) {
		r.t.Errorf("roles: %v, want %v", l, want)
	}
}

func (r *run) states(want ...int) {
	r.t.Helper()
	if l := each(r.s, func(p api.SpanPort) int { return p.State }); !slices.Equal(l, want) {
		r.t.Errorf("states: %v, want %v", l, want)
	}
}

func (r *run) waits(want ...int) {
	r.t.Helper()
	if l := each(r.s, func(p api.SpanPort) int { return p.Wait }); !slices.Equal(l, want) {
		r.t.Errorf("waits: %v, want %v", l, want)
	}
}

func (r *run) changes(want ...int) {
	r.t.Helper()
	if l := each(r.s, func(p api.SpanPort) int { return p.Change }); !slices.Equal(l, want) {
		r.t.Errorf("changes: %v, want %v", l, want)
	}
}

// flushed holds Flush against ports.
func flushed(t *testing.T, d api.Done, want ...int) {
	t.Helper()
	if !slices.Equal(d.Flush, want) {
		t.Errorf("flush: %v, want %v", d.Flush, want)
	}
}

// saidAt holds the ports of what was said against ports.
func saidAt(t *testing.T, d api.Done, want ...int) {
	t.Helper()
	var l []int
	for _, x := range d.Said {
		l = append(l, x.Port)
	}
	if !slices.Equal(l, want) {
		t.Errorf("said: %+v, want ports %v", d.Said, want)
	}
}

// offer is what a designated port says, which forwards.
func offer(root uint64, cost int, bridge uint64, port int) api.Bpdu {
	return api.Bpdu{Kind: api.BpduRapid, Role: api.ToldDesignated, Learn: true, Forward: true, Root: root, Cost: cost, Bridge: bridge, Port: port, MaxAge: 5120, Hello: 512, Delay: 1024}
}

// proposal is what one says that does not forward.
func proposal(root uint64, cost int, bridge uint64, port int) api.Bpdu {
	b := offer(root, cost, bridge, port)
	b.Learn, b.Forward, b.Propose = false, false, true
	return b
}

// agreement is what a port says that has agreed.
func agreement(role int) api.Bpdu {
	return api.Bpdu{Kind: api.BpduRapid, Role: role, Learn: true, Forward: true, Agree: true, Root: me, Cost: 10, Bridge: 90, Port: 1, MaxAge: 5120}
}

// told is a designated message of the bridge itself, as it says it where it is the root.
func told(port int) api.Bpdu {
	return api.Bpdu{Kind: api.BpduRapid, Role: api.ToldDesignated, Root: me, Bridge: me, Port: port, MaxAge: 5120, Hello: 512, Delay: 1024}
}

// best is an offer of a better root, by which its port is RoleRoot; next one that makes another port an alternate one beside it; self one that makes a port a backup one.
func best() api.Bpdu { return offer(1, 20, 30, 7) }
func next() api.Bpdu { return offer(1, 25, 40, 7) }
func self() api.Bpdu { return offer(0, 0, me, 0) }

// standing is a span of three ports whose first one has a role and a state, as calls make it; the second one is RoleRoot, unless the first one is.
func standing(t *testing.T, role, state int) *run {
	t.Helper()
	r := live(t, 3)
	switch role {
	case down:
		r.up(1, false)
	case designated:
		r.ticks(4 * state)
	case root:
		r.hear(1, best())
		return r.hearing(4*state, 1, best())
	case alternate:
		r.hear(1, next())
	case backup:
		r.hear(1, self())
	}
	r.hear(2, best())
	if p := r.port(1); p.Role != role || p.State != state {
		t.Fatalf("it is %+v, want role %d, state %d", p, role, state)
	}
	return r
}

// kinds are the roles, with the states that ports of them have.
func kinds() [][2]int {
	return [][2]int{{down, closed}, {backup, closed}, {alternate, closed}, {designated, closed}, {designated, learning}, {designated, open}, {root, closed}, {root, learning}, {root, open}}
}

// noPorts are numbers of ports that a span of three has not.
func noPorts() []int { return []int{math.MinInt, -3, -1, 0, 4, 5, 64, math.MaxInt} }

// P15.1: a span of no port, one, many, and lists that do not fit, or cost what may not be.
func TestNew(t *testing.T) {
	for _, x := range []struct {
		costs []int
		edges []bool
		want  api.Errno
	}{
		{nil, nil, api.OK}, {[]int{}, []bool{}, api.OK}, {nil, []bool{}, api.OK}, {[]int{}, nil, api.OK},
		{[]int{1}, []bool{false}, api.OK}, {[]int{1 << 24}, []bool{true}, api.OK}, {[]int{1, 2, 3}, []bool{true, false, true}, api.OK},
		{slices.Repeat([]int{7}, 64), make([]bool, 64), api.OK},
		{slices.Repeat([]int{7}, 65), make([]bool, 65), api.ErrArg}, {slices.Repeat([]int{7}, 64), make([]bool, 65), api.ErrArg}, {slices.Repeat([]int{7}, 65), make([]bool, 64), api.ErrArg},
		{slices.Repeat([]int{7}, 1000), make([]bool, 1000), api.ErrArg}, {make([]int, 65), nil, api.ErrArg},
		{[]int{1}, nil, api.ErrArg}, {nil, []bool{true}, api.ErrArg}, {[]int{1, 1}, []bool{true}, api.ErrArg}, {[]int{1}, []bool{true, true}, api.ErrArg},
		{[]int{0}, []bool{true}, api.ErrArg}, {[]int{-1}, []bool{true}, api.ErrArg}, {[]int{math.MinInt}, []bool{true}, api.ErrArg},
		{[]int{1<<24 + 1}, []bool{true}, api.ErrArg}, {[]int{math.MaxInt}, []bool{true}, api.ErrArg}, {[]int{1 << 32}, []bool{false}, api.ErrArg},
		{[]int{0, 1, 1}, make([]bool, 3), api.ErrArg}, {[]int{1, 0, 1}, make([]bool, 3), api.ErrArg}, {[]int{1, 1, 0}, make([]bool, 3), api.ErrArg}, {[]int{1, 1, 1<<24 + 1}, make([]bool, 3), api.ErrArg},
	} {
		for _, bridge := range []uint64{0, 9, 1 << 63, lastWord} {
			want := api.Span{}
			if x.want == api.OK {
				want.Bridge = bridge
				for i, c := range x.costs {
					want.Ports = append(want.Ports, api.SpanPort{View: api.View{Cost: c}, Edge: x.edges[i]})
				}
			}
			if s, e := span.New(bridge, x.costs, x.edges); !alike(s, want) || e != x.want {
				t.Errorf("New(%d, %v, %v): %+v, %v", bridge, x.costs, x.edges, s, e)
			}
		}
	}
}

// P15.1, R7: a copy is the same, and goes its own way.
func TestCopy(t *testing.T) {
	for _, s := range []api.Span{{}, {Bridge: 5}, {Ports: []api.SpanPort{}}, {Bridge: lastWord, Now: 77}, made(t, 64, 3, 5).s, standing(t, alternate, closed).s, standing(t, designated, open).s, live(t, 2, 1).ticks(9).s} {
		before := slices.Clone(s.Ports)
		c := span.Copy(s)
		if !alike(c, s) {
			t.Fatalf("%+v, want %+v", c, s)
		}
		for i := range c.Ports {
			c.Ports[i] = api.SpanPort{Left: -7}
		}
		if !slices.Equal(s.Ports, before) {
			t.Errorf("it became %+v", s.Ports)
		}
		c = span.Copy(s)
		for i := range s.Ports {
			s.Ports[i] = api.SpanPort{Left: -8}
		}
		if !slices.Equal(c.Ports, before) {
			t.Errorf("the copy became %+v", c.Ports)
		}
	}
	r := standing(t, root, open)
	c := &run{t, span.Copy(r.s)}
	for range 9 { // the same happens to both
		r.hear(2, next())
		r.tick()
	}
	c.roles(root, designated, designated)
	for range 9 {
		c.hear(2, next())
		c.tick()
	}
	if !alike(r.s, c.s) {
		t.Errorf("%+v, want %+v", c.s, r.s)
	}
}

// P15.2: what a port says, of each role and each state.
func TestMessage(t *testing.T) {
	for _, k := range kinds() {
		r := standing(t, k[0], k[1])
		want := api.Bpdu{Kind: api.BpduRapid, Root: 1, Cost: 30, Bridge: me, Port: 1, MaxAge: 5120, Hello: 512, Delay: 1024}
		want.Role = map[int]int{down: api.ToldNone, backup: api.ToldBackup, alternate: api.ToldBackup, designated: api.ToldDesignated, root: api.ToldRoot}[k[0]]
		want.Learn, want.Forward = k[1] != closed, k[1] == open
		want.Propose = k[0] == designated && k[1] != open
		want.Change = k[1] == open // port 3 was opened behind it
		if b := r.message(1); b != want {
			t.Errorf("role %d, state %d: %+v, want %+v", k[0], k[1], b, want)
		}
		want.Port = 3
		if b := r.message(3); b.Port != 3 || b.Root != 1 || b.Cost != 30 || b.Bridge != me || b.Role != api.ToldDesignated {
			t.Errorf("port 3: %+v", b)
		}
		for _, port := range noPorts() {
			if b, e := span.Message(r.s, port); b != (api.Bpdu{}) || e != api.ErrSpanPort {
				t.Errorf("Message(%d): %+v, %v", port, b, e)
			}
		}
	}
	for _, port := range []int{-1, 0, 1, 2} {
		if b, e := span.Message(made(t, 0).s, port); b != (api.Bpdu{}) || e != api.ErrSpanPort {
			t.Errorf("Message(%d): %+v, %v", port, b, e)
		}
	}
}

// P15.2: an edge does not propose; a bridge that is its own root says so; Change is said as long as it is above 0.
func TestMessageBesides(t *testing.T) {
	r := live(t, 2, 2)
	want := told(1)
	want.Propose = true
	if b := r.message(1); b != want {
		t.Errorf("%+v, want %+v", b, want)
	}
	want = told(2)
	want.Learn, want.Forward = true, true
	if b := r.message(2); b != want {
		t.Errorf("%+v, want %+v", b, want)
	}
	waiting := span.Copy(r.s) // an edge that waits, as no call makes it, proposes nothing either
	waiting.Ports[1].State, waiting.Ports[1].Wait = closed, 4
	if b, _ := span.Message(waiting, 2); b.Propose || b.Learn || b.Forward {
		t.Errorf("an edge says %+v", b)
	}
	r.hear(2, api.Bpdu{Kind: api.BpduChange})
	for i := range 6 {
		if b := r.message(1); b.Change != (i < 4) || b.Agree || b.Ack {
			t.Errorf("%d ticks later: %+v", i, b)
		}
		r.tick()
	}
	if b := r.message(2); b.Change {
		t.Errorf("%+v", b)
	}
}

// P15.2: a Cost is at most 2^32 - 1, as it must fit into a message.
func TestMessageCost(t *testing.T) {
	for _, x := range []struct{ heard, want int }{
		{0, 10}, {20, 30}, {1<<32 - 12, 1<<32 - 2}, {1<<32 - 11, 1<<32 - 1}, {1<<32 - 10, 1<<32 - 1}, {1<<32 - 1, 1<<32 - 1}, {1 << 32, 1<<32 - 1},
		{1<<32 + 1, 1<<32 - 1}, {math.MaxInt, 1<<32 - 1}, {-1, 1<<32 - 1}, {math.MinInt, 1<<32 - 1},
	} {
		r := live(t, 2)
		r.hear(1, offer(1, x.heard, 30, 7))
		r.roles(root, designated)
		for port := 1; port <= 2; port++ {
			b := r.message(port)
			if b.Cost != x.want || b.Root != 1 || bpdu.Check(b) != api.OK {
				t.Errorf("a Cost of %d: %+v, %v", x.heard, b, bpdu.Check(b))
			}
		}
	}
}

// P15.3: a port comes up: it is begun; an edge forwards at once.
func TestUp(t *testing.T) {
	r := made(t, 3, 2)
	for _, port := range []int{1, 2, 3} {
		if d := r.up(port, true); !sameDone(d, api.Done{}) {
			t.Errorf("port %d: %+v", port, d)
		}
	}
	up := api.View{Up: true, Cost: 10}
	want := []api.SpanPort{{View: up, Role: designated, Wait: 4}, {View: up, Edge: true, Role: designated, State: open}, {View: up, Role: designated, Wait: 4}}
	if !slices.Equal(r.s.Ports, want) || r.s.Now != 0 || r.s.Bridge != me {
		t.Errorf("%+v, want %+v", r.s, want)
	}
	r = made(t, 3)
	r.up(2, true)
	r.roles(down, designated, down)
	r.waits(0, 4, 0)
}

// P15.3: what is so already stays as it is, whatever the port is.
func TestUpAlready(t *testing.T) {
	for _, k := range kinds() {
		r := standing(t, k[0], k[1])
		was := span.Copy(r.s)
		for port := 1; port <= 3; port++ {
			d := r.up(port, port != 1 || k[0] != down)
			if !alike(r.s, was) || !sameDone(d, api.Done{}) {
				t.Errorf("port %d: %+v, %+v, want %+v", port, r.s, d, was)
			}
		}
	}
	r := made(t, 2, 1)
	was := span.Copy(r.s)
	if d := r.up(1, false); !alike(r.s, was) || !sameDone(d, api.Done{}) {
		t.Errorf("%+v, %+v", r.s, d)
	}
}

// P15.3: a port of each role and state goes down: it is blocked, its addresses are forgotten, if it forwarded.
func TestGoesDown(t *testing.T) {
	for _, k := range kinds()[1:] {
		r := standing(t, k[0], k[1])
		var forgot []int
		if k[1] == open {
			forgot = []int{1}
		}
		d := r.up(1, false)
		flushed(t, d, forgot...)
		saidAt(t, d)
		if p := unheard(r.port(1)); p != (api.SpanPort{View: api.View{Cost: 10}}) {
			t.Errorf("role %d, state %d: it is %+v", k[0], k[1], p)
		}
		if k[0] == root {
			r.roles(down, designated, designated)
		} else {
			r.roles(down, root, designated)
		}
		if d := r.up(1, true); !sameDone(d, api.Done{}) { // what was heard there is not known any more
			t.Errorf("it comes up: %+v", d)
		}
		if p := unheard(r.port(1)); p != (api.SpanPort{View: api.View{Up: true, Cost: 10}, Role: designated, Wait: 4}) {
			t.Errorf("it comes up: %+v", p)
		}
	}
}

// P15.3: an edge goes down and comes up: it is an edge all the time.
func TestEdgeGoesDown(t *testing.T) {
	r := live(t, 3, 2)
	r.ticks(8)
	flushed(t, r.up(2, false), 2)
	r.roles(designated, down, designated)
	r.states(open, closed, open)
	r.changes(4, 0, 4) // port 1, then port 3 were opened
	if d := r.up(2, true); !sameDone(d, api.Done{}) {
		t.Error(d)
	}
	r.states(open, open, open)
	if p := r.port(2); !p.Edge || p.Wait != 0 {
		t.Errorf("%+v", p)
	}
}

// P15.3: the root port goes down: an alternate port is begun as the next one; what agreed is not undone by that.
func TestRootGoesDown(t *testing.T) {
	r := live(t, 4)
	for range 8 {
		r.hear(1, best())
		r.hear(2, next())
		r.tick()
	}
	r.hear(4, agreement(api.ToldRoot))
	r.roles(root, alternate, designated, designated)
	r.states(open, closed, open, open)
	r.ticks(4) // no change is told any more
	r.changes(0, 0, 0, 0)
	r.hear(1, best())
	r.hear(2, next())
	flushed(t, r.up(1, false), 1)
	r.roles(down, root, designated, designated)
	r.states(closed, closed, open, open)
	r.waits(0, 4, 0, 0)
	if !r.port(4).Agreed {
		t.Error("port 4 has not agreed any more")
	}
	if b := r.message(3); b.Root != 1 || b.Cost != 35 {
		t.Errorf("%+v", b)
	}
	flushed(t, r.up(2, false)) // it did not forward
	r.roles(down, down, designated, designated)
	r.states(closed, closed, open, open)
	if b := r.message(3); b != (api.Bpdu{Kind: api.BpduRapid, Role: api.ToldDesignated, Learn: true, Forward: true, Root: me, Bridge: me, Port: 3, MaxAge: 5120, Hello: 512, Delay: 1024}) {
		t.Errorf("%+v", b)
	}
}

// P15.3, P15.4, P15.2: a port that there is not.
func TestNoPort(t *testing.T) {
	for _, r := range []*run{made(t, 3), live(t, 3), standing(t, root, open)} {
		for _, port := range noPorts() {
			for _, is := range []bool{false, true} {
				if s, d, e := span.Up(r.s, port, is); !alike(s, api.Span{}) || !sameDone(d, api.Done{}) || e != api.ErrSpanPort {
					t.Errorf("Up(%d): %+v, %+v, %v", port, s, d, e)
				}
			}
			for _, b := range []api.Bpdu{{}, best(), {Kind: api.BpduChange}, {Kind: 99}} {
				if s, d, e := span.Hear(r.s, port, b); !alike(s, api.Span{}) || !sameDone(d, api.Done{}) || e != api.ErrSpanPort {
					t.Errorf("Hear(%d): %+v, %+v, %v", port, s, d, e)
				}
			}
		}
	}
	if _, _, e := span.Up(made(t, 64).s, 64, true); e != api.OK {
		t.Error(e)
	}
	none := made(t, 0)
	if _, _, e := span.Up(none.s, 1, true); e != api.ErrSpanPort {
		t.Error(e)
	}
	for i := 1; i <= 4; i++ {
		if d := none.tick(); !sameDone(d, api.Done{}) || !alike(none.s, api.Span{Bridge: me, Now: i}) {
			t.Errorf("%+v, %+v", none.s, d)
		}
	}
}
