package span_test

import (
	"math"
	"slices"
	"testing"

	"gangway/api"
	"gangway/span"
	"gangway/vectors"
)

// all are messages of each kind, with each role, old and not, that propose, agree and tell of a change, or not.
func all() []api.Bpdu {
	var out []api.Bpdu
	for _, kind := range []int{api.BpduConfig, api.BpduRapid, api.BpduChange, 1, 7, -1} {
		for role := -1; role <= 4; role++ {
			for _, age := range []int{0, 5119, 5120, 5121} {
				for bits := range 8 {
					b := best()
					b.Kind, b.Role, b.Age = kind, role, age
					b.Propose, b.Agree, b.Change = bits&1 > 0, bits&2 > 0, bits&4 > 0
					out = append(out, b)
				}
			}
		}
	}
	return out
}

// P15.4: at a port that is not Up all stays: it stays an edge, too.
func TestHearDown(t *testing.T) {
	r := made(t, 3, 1)
	r.up(2, true)
	was := span.Copy(r.s)
	for _, b := range all() {
		for _, port := range []int{1, 3} {
			if d := r.hear(port, b); !alike(r.s, was) || !sameDone(d, api.Done{}) {
				t.Fatalf("port %d, %+v: %+v, %+v", port, b, r.s, d)
			}
		}
	}
	if !r.port(1).Edge {
		t.Error("port 1 is no edge")
	}
}

// P15.4 (1): whatever comes at an edge, it is none any more, and forwards on.
func TestHearEdge(t *testing.T) {
	for _, b := range []api.Bpdu{{Kind: api.BpduChange}, {Kind: 9}, {}, {Kind: api.BpduRapid}, {Kind: api.BpduConfig, Root: 60, Bridge: 60}, agreement(api.ToldRoot)} {
		r := live(t, 2, 1, 2)
		r.hear(1, b)
		if p := r.port(1); p.Edge || p.State != open || p.Role != designated || p.Wait != 0 {
			t.Errorf("%+v: %+v", b, p)
		}
		if p := r.port(2); !p.Edge || p.Change != 0 { // the other one stays one, and tells of no change
			t.Errorf("%+v: %+v", b, p)
		}
		if r.message(1).Propose {
			t.Errorf("%+v: it forwards, and proposes", b)
		}
	}
	r := live(t, 1, 1)
	r.hear(1, api.Bpdu{Kind: 9})
	flushed(t, r.up(1, false), 1)
	r.up(1, true) // now it waits as others do
	if p := r.port(1); p.Edge || p.State != closed || p.Wait != 4 {
		t.Errorf("%+v", p)
	}
}

// P15.4 (1, 2): a better root at an edge that forwards: it is begun, its addresses are forgotten.
func TestHearBestAtEdge(t *testing.T) {
	r := live(t, 2, 1)
	d := r.hear(1, best())
	flushed(t, d, 1)
	saidAt(t, d)
	want := api.SpanPort{View: api.View{Up: true, Cost: 10, Told: true, V: vectors.Of(best(), 1)}, Left: 6, Role: root, Wait: 4}
	if p := r.port(1); p != want {
		t.Errorf("%+v, want %+v", p, want)
	}
}

// P15.4 (2): what is heard: a BpduConfig, whatever role it tells, or a BpduRapid with ToldDesignated, if it is not too old.
func TestWhatIsHeard(t *testing.T) {
	for _, b := range all() {
		r := live(t, 2)
		r.hear(1, b)
		is := (b.Kind == api.BpduConfig || b.Kind == api.BpduRapid && b.Role == api.ToldDesignated) && b.Age < 5120
		p := r.port(1)
		if p.Told != is {
			t.Errorf("%+v: told: %v", b, p.Told)
		}
		if is && (p.V != vectors.Of(b, 1) || p.Left != 6 || p.Role != root) {
			t.Errorf("%+v: %+v", b, p)
		}
		if !is && (p.V != api.Vector{} || p.Left != 0 || p.Role != designated) {
			t.Errorf("%+v: %+v", b, p)
		}
	}
	for _, x := range []struct {
		age, most int
		want      bool
	}{{0, 0, false}, {0, 1, true}, {1, 1, false}, {65534, 65535, true}, {65535, 65535, false}, {-1, 0, true}, {0, -1, false}, {math.MinInt, math.MaxInt, true}, {math.MaxInt, math.MinInt, false}, {math.MaxInt - 1, math.MaxInt, true}} {
		for _, kind := range []int{api.BpduConfig, api.BpduRapid} {
			r := live(t, 1)
			b := best()
			b.Kind, b.Age, b.MaxAge = kind, x.age, x.most
			r.hear(1, b)
			if r.port(1).Told != x.want {
				t.Errorf("Age %d of %d: told: %v", x.age, x.most, r.port(1).Told)
			}
		}
	}
}

// P15.4 (2): what is better than what was heard, as good, or worse, from the same bridge's port and from another one, at a designated port, and at the root port.
func TestBetterOrWorse(t *testing.T) {
	const same, better, worse = 0, 1, 2
	for _, x := range []struct {
		b    api.Bpdu
		kind int
	}{
		{offer(70, 20, 80, 5), same},
		{offer(69, 20, 80, 5), better}, {offer(71, 20, 80, 5), better}, // of the same Bridge and Port, whatever it says
		{offer(70, 19, 80, 5), better}, {offer(70, 21, 80, 5), better}, {offer(lastWord, math.MaxInt, 80, 5), better},
		{offer(70, 20, 79, 5), better}, {offer(70, 20, 80, 4), better}, {offer(70, 19, 99, 99), better}, {offer(69, 99, 99, 99), better}, {offer(70, 20, 79, 99), better},
		{offer(70, 20, 81, 5), worse}, {offer(70, 20, 80, 6), worse}, {offer(70, 21, 79, 5), worse}, {offer(70, 21, 80, 4), worse}, {offer(71, 0, 0, 0), worse}, {offer(lastWord, 0, 80, 6), worse},
		{offer(70, 20, 81, 0), worse}, {offer(71, 20, 81, 5), worse}, {offer(71, 20, 80, 6), worse},
	} {
		for _, kind := range []int{api.BpduRapid, api.BpduConfig} {
			r := live(t, 2)
			r.hear(1, offer(70, 20, 80, 5))
			r.ticks(2)
			if r.port(1).Left != 4 || r.port(1).Role != designated {
				t.Fatalf("%+v", r.port(1))
			}
			x.b.Kind = kind
			d := r.hear(1, x.b)
			p := r.port(1)
			flushed(t, d)
			if x.kind == worse {
				saidAt(t, d, 1)
				if len(d.Said) == 1 && d.Said[0].B != r.message(1) {
					t.Errorf("%+v is said, not %+v", d.Said, r.message(1))
				}
				if p.V != vectors.Of(offer(70, 20, 80, 5), 1) || p.Left != 4 {
					t.Errorf("%+v: %+v", x.b, p)
				}
				continue
			}
			saidAt(t, d)
			if p.V != vectors.Of(x.b, 1) || p.Left != 6 {
				t.Errorf("%+v: %+v", x.b, p)
			}
		}
	}
}

// P15.4 (2): at a port that was told nothing whatever comes is heard, also what is worse than what the port says: it is not answered then, but the next time by another one.
func TestWorseAtQuietPort(t *testing.T) {
	r := live(t, 2)
	d := r.hear(2, proposal(lastWord, 1<<32, lastWord, 9))
	if !sameDone(d, api.Done{}) {
		t.Error(d)
	}
	r.roles(designated, designated)
	if p := r.port(2); !p.Told || p.V.Root != lastWord || p.Left != 6 {
		t.Errorf("%+v", p)
	}
	saidAt(t, r.hear(2, proposal(lastWord, 1<<32, lastWord, 9)))
	saidAt(t, r.hear(2, proposal(lastWord, 1<<32, lastWord, 10)), 2)
	old := proposal(lastWord, 1<<32, lastWord, 10)
	old.Age = old.MaxAge
	saidAt(t, r.hear(2, old)) // what is too old is no offer, and is not answered
	change := agreement(api.ToldNone)
	change.Agree = false
	saidAt(t, r.hear(2, change))
}

// P15.4 (2): what was heard once, and does not hold any more, makes no difference: what is worse is heard.
func TestHeardOnce(t *testing.T) {
	for _, over := range []func(r *run){
		func(r *run) { r.up(1, false); r.up(1, true) },
		func(r *run) { r.ticks(6) },
	} {
		r := live(t, 2)
		r.hear(1, best())
		over(r)
		r.roles(designated, designated)
		d := r.hear(1, offer(60, 0, 60, 1))
		saidAt(t, d)
		if p := r.port(1); !p.Told || p.V != vectors.Of(offer(60, 0, 60, 1), 1) || p.Left != 6 {
			t.Errorf("%+v", p)
		}
	}
}

// P15.4 (2): a worse offer from another one at a port that is not designated is not answered, and changes nothing.
func TestWorseElsewhere(t *testing.T) {
	for _, k := range kinds() {
		if k[0] == down || k[0] == designated {
			continue
		}
		r := standing(t, k[0], k[1])
		was := span.Copy(r.s)
		d := r.hear(1, offer(lastWord, 0, 99, 9))
		if !alike(r.s, was) || !sameDone(d, api.Done{}) {
			t.Errorf("role %d, state %d: %+v, %+v", k[0], k[1], r.s, d)
		}
	}
}

// P15.4 (2): the root port's own bridge says what is worse: it is heard, and the roles change with it.
func TestRootGetsWorse(t *testing.T) {
	r := live(t, 3)
	for range 8 {
		r.hear(1, best())
		r.hear(2, next())
		r.tick()
	}
	r.roles(root, alternate, designated)
	r.states(open, closed, open)
	flushed(t, r.hear(1, offer(1, 26, 30, 7)), 1) // it is farther than through port 2, and nearer than what port 1 says
	r.roles(alternate, root, designated)
	r.states(closed, closed, open)
	r.waits(0, 4, 0)
	r.changes(0, 4, 4)                         // ports 1 and 3 were opened a tick ago
	flushed(t, r.hear(2, offer(60, 0, 40, 7))) // it lost its root; the bridge's own way is port 1 again
	r.roles(root, designated, designated)
	r.waits(4, 4, 0)
	flushed(t, r.hear(1, offer(60, 0, 30, 7)))
	r.roles(designated, designated, designated)
	r.waits(4, 4, 0)
	if b := r.message(1); b.Root != me || b.Cost != 0 {
		t.Errorf("%+v", b)
	}
}

// P15.4 (2): settling: a port that gets no new role stays, one that gets one is blocked, or begun.
func TestSettle(t *testing.T) {
	r := live(t, 4, 4)
	r.ticks(8)
	r.states(open, open, open, open)
	r.changes(4, 4, 4, 0) // each of them was told of one of the others, that opened ahead of it or behind it
	flushed(t, r.hear(2, best()), 2)
	r.roles(designated, root, designated, designated)
	r.states(open, closed, open, open)
	r.waits(0, 4, 0, 0)
	r.changes(4, 4, 4, 0) // who is begun tells of it on
	flushed(t, r.hear(3, next()), 3)
	r.roles(designated, root, alternate, designated)
	r.waits(0, 4, 0, 0)
	r.changes(4, 4, 0, 0) // who is blocked does not
	flushed(t, r.hear(1, self()), 1)
	r.roles(backup, root, alternate, designated)
	r.changes(0, 4, 0, 0)
	flushed(t, r.hear(3, offer(0, 0, 40, 7))) // a still better root at port 3: port 2 is designated
	r.roles(backup, designated, root, designated)
	r.states(closed, closed, closed, open)
	r.waits(0, 4, 4, 0)
	r.ticks(1)
	r.waits(0, 3, 3, 0)
	r.hear(3, offer(0, 0, 40, 7)) // the same once more begins nothing anew
	r.waits(0, 3, 3, 0)
	if r.port(3).Left != 6 {
		t.Errorf("%+v", r.port(3))
	}
}

// P15.4 (2): several ports get another role by one message.
func TestSettleMany(t *testing.T) {
	r := live(t, 4)
	r.ticks(8)
	for port := 2; port <= 4; port++ {
		r.hear(port, offer(60, 0, 60, port)) // a worse root
	}
	r.hear(1, offer(9, 20, 30, 7))
	r.ticks(2)
	r.hear(1, offer(9, 20, 30, 7))
	r.roles(root, designated, designated, designated)
	for port := 2; port <= 4; port++ {
		r.hear(port, offer(9, 25, 30, 7+port))
	}
	r.roles(root, alternate, alternate, alternate)
	r.hear(1, offer(9, 500, 30, 7)) // it got far: port 2 is the best one
	r.roles(designated, root, alternate, alternate)
	r.states(closed, closed, closed, closed)
	r.waits(4, 4, 0, 0)
}

// P15.4 (2): a port that agreed, and is blocked or begun, has agreed no more.
func TestAgreedNoMore(t *testing.T) {
	for _, x := range []struct {
		b    api.Bpdu
		role int
		wait int
	}{{best(), root, 4}, {self(), backup, 0}} {
		r := live(t, 2)
		r.hear(1, agreement(api.ToldRoot))
		if !r.port(1).Agreed {
			t.Fatalf("%+v", r.port(1))
		}
		flushed(t, r.hear(1, x.b), 1)
		if p := r.port(1); p.Agreed || p.Role != x.role || p.State != closed || p.Wait != x.wait {
			t.Errorf("%+v", p)
		}
	}
	r := live(t, 2)
	r.hear(1, best())
	r.hear(2, agreement(api.ToldRoot))
	r.hear(2, next())
	if p := r.port(2); p.Agreed || p.Role != alternate || p.State != closed {
		t.Errorf("%+v", p)
	}
}

// P15.4 (3): which messages are proposals, at a port that takes them.
func TestWhatIsProposal(t *testing.T) {
	for _, b := range all() {
		r := live(t, 2)
		r.hear(1, best())
		r.tick()
		agree := r.message(1)
		agree.Agree, agree.Learn, agree.Forward = true, true, true
		d := r.hear(1, b)
		if b.Propose && b.Kind == api.BpduRapid && b.Role == api.ToldDesignated && b.Age < b.MaxAge {
			r.states(open, closed)
			if !slices.Equal(d.Said, []api.Said{{Port: 1, B: agree}}) {
				t.Errorf("%+v: %+v", b, d)
			}
			flushed(t, d, 2)
			continue
		}
		r.states(closed, closed)
		saidAt(t, d)
	}
}

// P15.4 (3): a proposal at a port of each role and state; at a designated one that stays one it is no news.
func TestProposalAtEachRole(t *testing.T) {
	for _, k := range kinds() {
		if k[0] == down {
			continue
		}
		r := standing(t, k[0], k[1])
		b := map[int]api.Bpdu{designated: proposal(60, 0, 60, 7), root: proposal(1, 20, 30, 7), alternate: proposal(1, 25, 40, 7), backup: proposal(0, 0, me, 0)}[k[0]]
		before := r.s
		d := r.hear(1, b)
		if p := r.port(1); p.Role != k[0] {
			t.Fatalf("%+v", p)
		}
		if k[0] == designated {
			saidAt(t, d)
			r.states(k[1], before.Ports[1].State, before.Ports[2].State)
			continue
		}
		want := r.message(1)
		want.Agree = true
		if !slices.Equal(d.Said, []api.Said{{Port: 1, B: want}}) {
			t.Errorf("role %d: %+v, want %+v", k[0], d.Said, want)
		}
		if r.port(3).State != closed || r.port(3).Wait != 4 {
			t.Errorf("role %d: port 3 is %+v", k[0], r.port(3))
		}
		if k[0] == root && (r.port(1).State != open || r.port(1).Wait != 0) {
			t.Errorf("the root port is %+v", r.port(1))
		}
		if k[0] != root && r.port(1).State != closed {
			t.Errorf("role %d: it is %+v", k[0], r.port(1))
		}
	}
}

// P15.4 (3): of the other ports those that are designated, no edges, have not agreed, and are Learning or Forwarding are begun, and no other ones.
func TestOthersAreBegun(t *testing.T) {
	r := live(t, 9, 4)
	r.up(2, false)
	r.ticks(4)
	r.up(8, false)
	r.up(8, true) // it waits anew
	r.ticks(2)
	r.hear(7, next())
	r.hear(9, self())
	r.hear(6, best())
	r.hear(3, agreement(api.ToldBackup))
	r.ticks(1)
	r.roles(designated, down, designated, designated, designated, root, alternate, designated, backup)
	r.states(learning, closed, open, open, learning, closed, closed, closed, closed)
	r.waits(1, 0, 0, 0, 1, 3, 0, 1, 0)
	d := r.hear(6, proposal(1, 20, 30, 7))
	r.states(closed, closed, open, open, closed, open, closed, closed, closed)
	r.waits(4, 0, 0, 0, 4, 0, 0, 1, 0)
	flushed(t, d, 1, 3, 5, 7, 8, 9) // there is a change at port 6: all that are up, and no edge
	r.changes(4, 0, 4, 0, 4, 3, 4, 4, 4)
	saidAt(t, d, 6)
	if !r.port(3).Agreed {
		t.Error("port 3 has not agreed any more")
	}
}

// P15.4 (3): a proposal at an alternate port: the others are begun, the root port is not, and nothing is opened.
func TestProposalAtAlternate(t *testing.T) {
	r := live(t, 3)
	for range 8 {
		r.hear(1, best())
		r.hear(2, next())
		r.tick()
	}
	r.states(open, closed, open)
	d := r.hear(2, proposal(1, 25, 40, 7))
	flushed(t, d, 3)
	r.states(open, closed, closed)
	r.waits(0, 0, 4)
	want := api.Bpdu{Kind: api.BpduRapid, Role: api.ToldBackup, Agree: true, Root: 1, Cost: 30, Bridge: me, Port: 2, MaxAge: 5120, Hello: 512, Delay: 1024}
	want.Change = r.port(2).Change > 0
	if !slices.Equal(d.Said, []api.Said{{Port: 2, B: want}}) {
		t.Errorf("%+v, want %+v", d.Said, want)
	}
}

// P15.4 (3): at a root port that forwards a proposal is agreed to, and there is no change.
func TestProposalAgain(t *testing.T) {
	r := live(t, 2)
	r.hear(1, proposal(1, 20, 30, 7))
	r.ticks(4)
	r.states(open, learning)
	r.changes(0, 0)
	d := r.hear(1, proposal(1, 20, 30, 7))
	r.states(open, closed)
	r.changes(0, 0)
	flushed(t, d) // port 2 did not forward
	saidAt(t, d, 1)
	r.ticks(5)
	r.hear(1, best())
	r.ticks(3)
	r.states(open, open)
	r.hear(1, best())
	d = r.hear(1, proposal(1, 20, 30, 7))
	r.states(open, closed)
	flushed(t, d, 2)
}

// P15.4 (3): a proposal that is not heard, as it is worse, at a port that is not designated is agreed to all the same.
func TestWorseProposal(t *testing.T) {
	r := live(t, 2)
	r.hear(1, best())
	d := r.hear(1, proposal(60, 0, 60, 7))
	saidAt(t, d, 1)
	if len(d.Said) == 1 && (!d.Said[0].B.Agree || d.Said[0].B.Role != api.ToldRoot || d.Said[0].B.Root != 1) {
		t.Errorf("%+v", d.Said)
	}
	r.states(open, closed)
	if r.port(1).V != vectors.Of(best(), 1) {
		t.Errorf("%+v", r.port(1))
	}
}

// P15.4 (4): which messages are agreements, and at which ports.
func TestAgreement(t *testing.T) {
	for _, k := range kinds() {
		if k[0] == down {
			continue
		}
		for _, b := range all() {
			b.Change, b.Propose = false, false
			if b.Kind == api.BpduConfig || b.Role == api.ToldDesignated {
				b.Age = b.MaxAge // else it is an offer
			}
			r := standing(t, k[0], k[1])
			changes := each(r.s, func(p api.SpanPort) int { return p.Change })
			d := r.hear(1, b)
			is := k[0] == designated && b.Kind == api.BpduRapid && (b.Role == api.ToldRoot || b.Role == api.ToldBackup) && b.Agree
			state := k[1]
			if is {
				state = open
			}
			p := r.port(1)
			if p.Agreed != is || p.State != state || p.Role != k[0] || is && p.Wait != 0 {
				t.Fatalf("role %d, state %d, %+v: %+v", k[0], k[1], b, p)
			}
			saidAt(t, d)
			if is && k[1] != open {
				flushed(t, d, 2, 3)
				r.changes(changes[0], 4, 4)
			} else if b.Kind != api.BpduChange { // a BpduChange tells of one, whatever else stands in it
				flushed(t, d)
				r.changes(changes...)
			}
		}
	}
}

// P15.4 (4): an agreement is taken however old it is, and whatever it says of the root.
func TestAnyAgreement(t *testing.T) {
	for _, b := range []api.Bpdu{
		{Kind: api.BpduRapid, Role: api.ToldRoot, Agree: true},
		{Kind: api.BpduRapid, Role: api.ToldBackup, Agree: true, Age: 99, MaxAge: 1},
		{Kind: api.BpduRapid, Role: api.ToldBackup, Agree: true, Root: lastWord, Cost: -1, Port: math.MinInt, Age: math.MaxInt},
	} {
		r := live(t, 1)
		d := r.hear(1, b)
		if p := r.port(1); !p.Agreed || p.State != open || p.Wait != 0 || p.Told || !sameDone(d, api.Done{}) {
			t.Errorf("%+v: %+v, %+v", b, p, d)
		}
	}
}

// P15.4 (5): which messages tell of a change, at a port of each role.
func TestChange(t *testing.T) {
	for _, k := range kinds() {
		for _, b := range []api.Bpdu{
			{Kind: api.BpduChange}, {Kind: api.BpduChange, Change: true}, {Kind: api.BpduRapid, Change: true}, {Kind: api.BpduRapid, Role: api.ToldRoot, Change: true},
			{Kind: api.BpduConfig, Change: true}, {Kind: api.BpduConfig, Change: true, Age: 7, MaxAge: 7},
			{Kind: api.BpduConfig}, {Kind: api.BpduRapid, Role: api.ToldRoot}, {Kind: api.BpduRapid},
		} {
			r := standing(t, k[0], k[1])
			was := span.Copy(r.s)
			d := r.hear(1, b)
			saidAt(t, d)
			if (k[0] == root || k[0] == designated) && (b.Kind == api.BpduChange || b.Change) {
				flushed(t, d, 2, 3)
				r.changes(was.Ports[0].Change, 4, 4)
				for i := range was.Ports[1:] {
					was.Ports[i+1].Change = 4
				}
			} else {
				flushed(t, d)
			}
			if !alike(r.s, was) {
				t.Errorf("role %d, state %d, %+v: %+v, want %+v", k[0], k[1], b, r.s, was)
			}
		}
	}
}

// P15.4 (5): told of a change are the other ports that are up, and no edges, whatever they are else.
func TestWhoIsToldOfChange(t *testing.T) {
	r := live(t, 6, 3)
	r.up(2, false)
	r.hear(4, best())
	r.hear(5, next())
	r.hear(6, self())
	r.roles(designated, down, designated, root, alternate, backup)
	flushed(t, r.hear(1, api.Bpdu{Kind: api.BpduChange}), 4, 5, 6)
	r.changes(0, 0, 0, 4, 4, 4)
	r.ticks(1)
	flushed(t, r.hear(4, api.Bpdu{Kind: api.BpduChange}), 1, 5, 6)
	r.changes(4, 0, 0, 3, 4, 4)
	flushed(t, r.hear(5, api.Bpdu{Kind: api.BpduChange}))
	flushed(t, r.hear(6, api.Bpdu{Kind: api.BpduChange}))
	r.changes(4, 0, 0, 3, 4, 4)
	flushed(t, r.hear(3, api.Bpdu{Kind: api.BpduChange}), 1, 4, 5, 6)
	r.changes(4, 0, 0, 4, 4, 4)
	flushed(t, r.hear(1, api.Bpdu{Kind: api.BpduChange}), 3, 4, 5, 6) // it is no edge any more
	r.changes(4, 0, 4, 4, 4, 4)
}

// P15.4: several steps in one message: a better root that proposes, and tells of a change, at a port that forwards.
func TestAllAtOnce(t *testing.T) {
	r := live(t, 4, 4)
	r.ticks(8)
	r.changes(4, 4, 4, 0)
	r.ticks(4)
	r.hear(2, agreement(api.ToldRoot))
	b := proposal(1, 20, 30, 7)
	b.Change, b.Agree, b.Learn = true, true, true // its Agree is none, as it is designated
	d := r.hear(1, b)
	r.roles(root, designated, designated, designated)
	r.states(open, open, closed, open)
	r.changes(0, 4, 4, 0)
	flushed(t, d, 1, 2, 3) // 1 was begun, 3 was begun, and there was a change at 1
	want := api.Bpdu{Kind: api.BpduRapid, Role: api.ToldRoot, Learn: true, Forward: true, Agree: true, Root: 1, Cost: 30, Bridge: me, Port: 1, MaxAge: 5120, Hello: 512, Delay: 1024}
	if !slices.Equal(d.Said, []api.Said{{Port: 1, B: want}}) {
		t.Errorf("%+v, want %+v", d.Said, want)
	}
	// an agreement that tells of a change opens, and is one.
	r = live(t, 2)
	a := agreement(api.ToldRoot)
	a.Change = true
	d = r.hear(2, a)
	flushed(t, d, 1)
	saidAt(t, d)
	r.changes(4, 0)
	r.states(closed, open)
	// what is worse, and tells of a change: it is answered ahead of the change.
	r = live(t, 2)
	r.hear(1, offer(70, 20, 80, 5))
	w := offer(71, 20, 81, 5)
	w.Change = true
	d = r.hear(1, w)
	flushed(t, d, 2)
	saidAt(t, d, 1)
	r.changes(0, 4)
}

// P15.4: an offer that makes an edge that forwards an alternate port, and proposes: it is blocked, and agrees; no change, as it is not designated.
func TestAlternateAtOnce(t *testing.T) {
	r := live(t, 3, 2)
	r.hear(1, best())
	b := proposal(1, 25, 40, 7)
	b.Change = true
	d := r.hear(2, b)
	r.roles(root, alternate, designated)
	r.states(closed, closed, closed)
	flushed(t, d, 2)
	r.changes(0, 0, 0)
	saidAt(t, d, 2)
	if len(d.Said) == 1 && (!d.Said[0].B.Agree || d.Said[0].B.Role != api.ToldBackup || d.Said[0].B.Learn) {
		t.Errorf("%+v", d.Said)
	}
}
