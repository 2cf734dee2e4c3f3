package span_test

import (
	"math"
	"slices"
	"testing"

	"gangway/api"
	"gangway/roles"
	"gangway/span"
	"gangway/vectors"
)

// model is a span as the chapter's words tell it: it is worked on in place, and keeps what is done since it was begun.
type model struct {
	api.Span
	said  []api.Said
	flush [65]bool
}

// begun is a model of a span, to which nothing was done.
func begun(s api.Span) *model {
	return &model{Span: api.Span{Bridge: s.Bridge, Now: s.Now, Ports: slices.Clone(s.Ports)}}
}

func (m *model) done() api.Done {
	d := api.Done{Said: m.said}
	for port, is := range m.flush {
		if is {
			d.Flush = append(d.Flush, port)
		}
	}
	return d
}

func (m *model) views() []api.View {
	var l []api.View
	for _, p := range m.Ports {
		l = append(l, p.View)
	}
	return l
}

func (m *model) toBlock(i int) {
	if m.Ports[i].State == open {
		m.flush[i+1] = true
	}
	m.Ports[i].State = closed
	m.Ports[i].Wait = 0
	m.Ports[i].Agreed = false
}

func (m *model) toBegin(i int) {
	m.toBlock(i)
	m.Ports[i].Wait = 4
	if m.Ports[i].Role == designated && m.Ports[i].Edge {
		m.Ports[i].State = open
		m.Ports[i].Wait = 0
	}
}

func (m *model) toSettle() {
	all := roles.All(m.Bridge, m.views())
	for i := range m.Ports {
		if m.Ports[i].Role == all[i] {
			continue
		}
		m.Ports[i].Role = all[i]
		switch all[i] {
		case down, backup, alternate:
			m.toBlock(i)
			m.Ports[i].Change = 0
		case root, designated:
			m.toBegin(i)
		}
	}
}

func (m *model) changeAt(i int) {
	for k := range m.Ports {
		if k != i && m.Ports[k].Up && !m.Ports[k].Edge {
			m.Ports[k].Change = 4
			m.flush[k+1] = true
		}
	}
}

func (m *model) toOpen(i int) {
	if m.Ports[i].State == open {
		m.Ports[i].Wait = 0
		return
	}
	m.Ports[i].State = open
	m.Ports[i].Wait = 0
	m.changeAt(i)
}

func (m *model) message(i int) api.Bpdu {
	p := m.Ports[i]
	v := roles.Says(m.Bridge, m.views(), i+1)
	b := api.Bpdu{Kind: 2, Root: v.Root, Cost: v.Cost, Bridge: v.Bridge, Port: v.Port, MaxAge: 5120, Hello: 512, Delay: 1024}
	if b.Cost > 4294967295 {
		b.Cost = 4294967295
	}
	b.Change = p.Change > 0
	b.Propose = p.Role == designated && !p.Edge && p.State != open
	b.Role = [5]int{down: 0, backup: 1, alternate: 1, designated: 3, root: 2}[p.Role]
	b.Learn = p.State == learning || p.State == open
	b.Forward = p.State == open
	return b
}

func (m *model) says(i int, agree bool) {
	b := m.message(i)
	b.Agree = agree
	m.said = append(m.said, api.Said{Port: i + 1, B: b})
}

func (m *model) up(i int, is bool) {
	if m.Ports[i].Up == is {
		return
	}
	m.Ports[i].Up = is
	m.Ports[i].Told = false
	m.toSettle()
}

// hear tells whether a proposal was agreed to.
func (m *model) hear(i int, b api.Bpdu) bool {
	p := &m.Ports[i]
	if !p.Up {
		return false
	}
	p.Edge = false
	rapid := b.Kind == api.BpduRapid && b.Role == api.ToldDesignated
	if (b.Kind == api.BpduConfig || rapid) && b.Age < b.MaxAge {
		v := vectors.Of(b, i+1)
		if !p.Told || vectors.Compare(v, p.V) < 1 || b.Bridge == p.V.Bridge && b.Port == p.V.Port {
			p.Told, p.V, p.Left = true, v, 6
			m.toSettle()
		} else if p.Role == designated {
			m.says(i, false)
		}
	}
	agreed := false
	if b.Propose && rapid && b.Age < b.MaxAge && (p.Role == root || p.Role == alternate || p.Role == backup) {
		for k, q := range m.Ports {
			if k != i && q.Role == designated && !q.Edge && !q.Agreed && q.State != closed {
				m.toBegin(k)
			}
		}
		if p.Role == root {
			m.toOpen(i)
		}
		m.says(i, true)
		agreed = true
	}
	if b.Kind == api.BpduRapid && (b.Role == api.ToldRoot || b.Role == api.ToldBackup) && b.Agree && p.Role == designated {
		p.Agreed = true
		m.toOpen(i)
	}
	if (b.Kind == api.BpduChange || b.Change) && (p.Role == root || p.Role == designated) {
		m.changeAt(i)
	}
	return agreed
}

func (m *model) tick() {
	m.Now++
	lost := false
	for i := range m.Ports {
		if m.Ports[i].Told {
			m.Ports[i].Left--
			if m.Ports[i].Left == 0 {
				m.Ports[i].Told = false
				lost = true
			}
		}
		m.Ports[i].Change = max(0, m.Ports[i].Change-1)
	}
	if lost {
		m.toSettle()
	}
	for i := range m.Ports {
		p := &m.Ports[i]
		if p.Role != root && p.Role != designated || p.State == open {
			continue
		}
		p.Wait--
		if p.Wait > 0 {
			continue
		}
		if p.State == learning {
			m.toOpen(i)
			continue
		}
		p.State, p.Wait = learning, 4
	}
	if m.Now%2 == 1 {
		return
	}
	for i, p := range m.Ports {
		if p.Role == designated || p.Role == root && p.Change > 0 {
			m.says(i, false)
		}
	}
}

// source answers numbers, the same ones in each run.
func source() func(below int) int {
	x := uint64(88172645463325252)
	return func(below int) int {
		x ^= x << 13
		x ^= x >> 7
		x ^= x << 17
		return int(x >> 20 % uint64(below))
	}
}

// pick is one of l.
func pick[T any](next func(int) int, l ...T) T { return l[next(len(l))] }

// anyBpdu is a message, mostly one that is heard; few numbers, so that many are the same.
func anyBpdu(next func(int) int, m *model) api.Bpdu {
	b := api.Bpdu{
		Kind:   pick(next, api.BpduRapid, api.BpduRapid, api.BpduRapid, api.BpduRapid, api.BpduConfig, api.BpduChange, 5),
		Role:   pick(next, api.ToldDesignated, api.ToldDesignated, api.ToldDesignated, api.ToldRoot, api.ToldBackup, api.ToldNone, 4),
		Change: next(5) == 0, Propose: next(2) == 0, Learn: next(2) == 0, Forward: next(2) == 0, Agree: next(2) == 0, Ack: next(9) == 0,
		Root: pick[uint64](next, 1, 2, m.Bridge, m.Bridge+1), Cost: next(30), Bridge: pick[uint64](next, 1, 2, 3, m.Bridge, m.Bridge+1, lastWord), Port: next(4),
		MaxAge: 3, Age: pick(next, 0, 0, 0, 1, 2, 3, 4),
	}
	if next(30) == 0 {
		b.Cost = pick(next, math.MinInt, -1, 1<<32-5, 1<<32, 1<<32+1, math.MaxInt)
	}
	if next(4) == 0 { // nearly what one of the ports says
		x := m.message(next(len(m.Ports)))
		x.Propose, x.Agree, x.Change, x.Port = b.Propose, b.Agree, b.Change, x.Port+next(2)
		return x
	}
	return b
}

// behind holds what follows against a span, behind an agreement at a port (0: none).
func behind(t *testing.T, s api.Span, agreed int) {
	t.Helper()
	roots := 0
	for i, p := range s.Ports {
		if p.Role == root {
			roots++
		}
		if p.State != closed && p.Role != root && p.Role != designated {
			t.Fatalf("port %d is %+v", i+1, p)
		}
		if p.State == open && p.Wait != 0 || p.Told && p.Left < 1 || p.Change > 4 || p.Wait > 4 {
			t.Fatalf("port %d is %+v", i+1, p)
		}
		if agreed > 0 && i+1 != agreed && p.State != closed && p.Role == designated && !p.Edge && !p.Agreed {
			t.Fatalf("behind an agreement at port %d port %d is %+v", agreed, i+1, p)
		}
		if agreed > 0 && s.Ports[agreed-1].Role == root && i+1 != agreed && p.State == open && !p.Edge && !p.Agreed {
			t.Fatalf("behind an agreement at the root port %d port %d is %+v", agreed, i+1, p)
		}
	}
	if roots > 1 {
		t.Fatalf("it has %d root ports: %+v", roots, s)
	}
}

// step lets something happen to a span and its model, and holds one against the other.
func step(t *testing.T, s api.Span, next func(int) int) api.Span {
	t.Helper()
	was := span.Copy(s)
	m := begun(s)
	port := 1 + next(len(s.Ports))
	agreed := 0
	var d api.Done
	var out api.Span
	e := api.OK
	what := api.Bpdu{}
	switch n := next(12); {
	case n == 0:
		is := next(3) > 0
		m.up(port-1, is)
		out, d, e = span.Up(s, port, is)
	case n < 8:
		what = anyBpdu(next, m)
		if m.hear(port-1, what) {
			agreed = port
		}
		out, d, e = span.Hear(s, port, what)
	default:
		m.tick()
		out, d = span.Tick(s)
	}
	if !alike(out, m.Span) || !sameDone(d, m.done()) || e != api.OK {
		t.Fatalf("of %+v, port %d, %+v:\n%+v, %+v, %v, want\n%+v, %+v", s, port, what, out, d, e, m.Span, m.done())
	}
	if !alike(s, was) {
		t.Fatalf("%+v became %+v", was, s)
	}
	for i := range out.Ports {
		if b, e := span.Message(out, i+1); b != m.message(i) || e != api.OK {
			t.Fatalf("port %d of %+v says %+v, %v, want %+v", i+1, out, b, e, m.message(i))
		}
	}
	behind(t, out, agreed)
	return out
}

// P15.1 to P15.6: what is answered is what the chapter's words make of it, whatever happens.
func TestAny(t *testing.T) {
	next := source()
	met := map[[3]int]int{}
	for range 2000 {
		var costs []int
		var edges []bool
		for range 1 + next(5) {
			costs = append(costs, pick(next, 1, 1, 2, 5, 10, 1<<24))
			edges = append(edges, next(4) == 0)
		}
		s, e := span.New(pick[uint64](next, 4, 4, 4, 0, 1<<63, lastWord), costs, edges)
		if e != api.OK {
			t.Fatal(e)
		}
		for port := range costs {
			if next(4) > 0 {
				s, _, _ = span.Up(s, port+1, true)
			}
		}
		for range 60 {
			s = step(t, s, next)
			for _, p := range s.Ports {
				if p.Agreed {
					met[[3]int{p.Role, p.State, 1}]++
				}
				met[[3]int{p.Role, p.State, 0}]++
			}
		}
	}
	for _, k := range kinds() {
		if met[[3]int{k[0], k[1], 0}] < 500 {
			t.Errorf("role %d, state %d was met %d times", k[0], k[1], met[[3]int{k[0], k[1], 0}])
		}
	}
	if met[[3]int{designated, open, 1}] < 500 {
		t.Errorf("ports that agreed: %v", met)
	}
}
