package span_test

import (
	"slices"
	"testing"

	"gangway/api"
	"gangway/bpdu"
	"gangway/span"
)

// end is a bridge's port: bridges are numbered from 0 on.
type end struct{ bridge, port int }

// town are bridges with links between their ports.
type town struct {
	t     *testing.T
	l     []api.Span
	other map[end]end
	cut   map[end]bool
}

// build is one: of bridges' numbers, and of links of ports that cost 10.
func build(t *testing.T, numbers []uint64, links ...[2]end) *town {
	t.Helper()
	w := &town{t: t, other: map[end]end{}, cut: map[end]bool{}}
	ports := make([]int, len(numbers))
	for _, x := range links {
		w.other[x[0]], w.other[x[1]] = x[1], x[0]
		for _, e := range x {
			ports[e.bridge] = max(ports[e.bridge], e.port)
		}
	}
	for i, n := range numbers {
		s, e := span.New(n, slices.Repeat([]int{10}, ports[i]), make([]bool, ports[i]))
		if e != api.OK {
			t.Fatal(e)
		}
		w.l = append(w.l, s)
	}
	for i := range w.l {
		for port := 1; port <= ports[i]; port++ {
			w.link(end{i, port}, true)
		}
	}
	return w
}

// link lets a port be up, or not; a message on a link that is not is lost.
func (w *town) link(at end, is bool) {
	s, d, e := span.Up(w.l[at.bridge], at.port, is)
	if e != api.OK {
		w.t.Fatal(e)
	}
	w.l[at.bridge] = s
	w.cut[at] = !is
	w.carry(at.bridge, d)
}

// carry lets what a bridge says be heard, and what comes of that, till nobody says anything more.
func (w *town) carry(from int, d api.Done) {
	w.t.Helper()
	type letter struct {
		to end
		b  api.Bpdu
	}
	var open []letter
	post := func(from int, d api.Done) {
		for _, x := range d.Said {
			at := end{from, x.Port}
			if !w.cut[at] && !w.cut[w.other[at]] {
				open = append(open, letter{w.other[at], x.B})
			}
		}
	}
	post(from, d)
	for n := 0; len(open) > 0; n++ {
		if n > 1000 {
			w.t.Fatal("they speak on and on")
		}
		x := open[0]
		open = open[1:]
		text, e := bpdu.Build(x.b)
		b, e2 := bpdu.Parse(text)
		if e != api.OK || e2 != api.OK || b != x.b {
			w.t.Fatalf("%+v: %v, %v", x.b, e, e2)
		}
		s, d, e := span.Hear(w.l[x.to.bridge], x.to.port, b)
		if e != api.OK {
			w.t.Fatal(e)
		}
		w.l[x.to.bridge] = s
		post(x.to.bridge, d)
	}
}

func (w *town) ticks(n int) {
	w.t.Helper()
	for range n {
		for i := range w.l {
			s, d := span.Tick(w.l[i])
			w.l[i] = s
			w.carry(i, d)
		}
	}
}

// roles holds each bridge's roles against roles.
func (w *town) roles(want ...[]int) {
	w.t.Helper()
	for i, s := range w.l {
		if l := each(s, func(p api.SpanPort) int { return p.Role }); !slices.Equal(l, want[i]) {
			w.t.Errorf("bridge %d has the roles %v, want %v", i, l, want[i])
		}
	}
}

// isTree tells a fault, unless all bridges agree about the root, root and designated ports forward and no other ones, and there is just one way between each two.
func (w *town) isTree() {
	w.t.Helper()
	part := make([]int, len(w.l))
	for i := range part {
		part[i] = i
	}
	parts := len(part)
	for i, s := range w.l {
		b, _ := span.Message(s, 1)
		if b.Root != 1 {
			w.t.Errorf("the root of bridge %d is %d", i, b.Root)
		}
		for n, p := range s.Ports {
			at := end{i, n + 1}
			to := w.other[at]
			mayForward := p.Role == root || p.Role == designated
			if mayForward != (p.State == open) {
				w.t.Errorf("%v is %+v", at, p)
			}
			if p.State != open || w.l[to.bridge].Ports[to.port-1].State != open || at.bridge > to.bridge {
				continue
			}
			if part[i] == part[to.bridge] {
				w.t.Errorf("there is a circle by %v", at)
			}
			goes, stays := part[to.bridge], part[i]
			for k := range part {
				if part[k] == goes {
					part[k] = stays
				}
			}
			parts--
		}
	}
	if parts != 1 {
		w.t.Errorf("there are %d parts", parts)
	}
}

// P15.3 to P15.6: two bridges, one link: at their first words it forwards.
func TestTwoBridges(t *testing.T) {
	w := build(t, []uint64{1, 2}, [2]end{{0, 1}, {1, 1}})
	w.ticks(2)
	w.roles([]int{designated}, []int{root})
	w.isTree()
	w.ticks(20)
	w.roles([]int{designated}, []int{root})
	w.isTree()
	w = build(t, []uint64{2, 1}, [2]end{{0, 1}, {1, 1}})
	w.ticks(2)
	w.roles([]int{root}, []int{designated})
	w.isTree()
}

// P15.3 to P15.6: two bridges, two links: one of them is closed at the one that is not the root, and takes over from the other one.
func TestTwoLinks(t *testing.T) {
	w := build(t, []uint64{1, 2}, [2]end{{0, 1}, {1, 2}}, [2]end{{0, 2}, {1, 1}})
	w.ticks(20)
	w.roles([]int{designated, designated}, []int{alternate, root})
	w.isTree()
	w.link(end{1, 2}, false)
	w.link(end{0, 1}, false)
	w.ticks(12)
	w.roles([]int{down, designated}, []int{root, down})
	w.isTree()
	w.link(end{0, 1}, true)
	w.link(end{1, 2}, true)
	w.ticks(20)
	w.roles([]int{designated, designated}, []int{alternate, root})
	w.isTree()
}

// P15.3 to P15.6: a bridge whose two ports are linked: the greater one is a backup one.
func TestOwnLink(t *testing.T) {
	w := build(t, []uint64{1}, [2]end{{0, 1}, {0, 2}})
	w.ticks(20)
	w.roles([]int{designated, backup})
	if p := w.l[0].Ports; p[0].State != open || p[1].State != closed {
		t.Errorf("%+v", p)
	}
}

// ring are three bridges, each one linked to both others: port 1 of each leads to the next one's port 2.
func ring(t *testing.T) *town {
	t.Helper()
	return build(t, []uint64{1, 2, 3}, [2]end{{0, 1}, {1, 2}}, [2]end{{1, 1}, {2, 2}}, [2]end{{2, 1}, {0, 2}})
}

// P15.3 to P15.6: three bridges in a ring agree which port is closed.
func TestRing(t *testing.T) {
	w := ring(t)
	w.ticks(20)
	w.roles([]int{designated, designated}, []int{designated, root}, []int{root, alternate})
	w.isTree()
	w.ticks(20)
	w.roles([]int{designated, designated}, []int{designated, root}, []int{root, alternate})
	w.isTree()
}

// P15.3 to P15.6: the ring is cut, and whole again.
func TestRingIsCut(t *testing.T) {
	w := ring(t)
	w.ticks(20)
	w.link(end{2, 1}, false)
	w.link(end{0, 2}, false)
	w.ticks(20)
	w.roles([]int{designated, down}, []int{designated, root}, []int{down, root})
	w.isTree()
	w.link(end{0, 2}, true)
	w.link(end{2, 1}, true)
	w.ticks(20)
	w.roles([]int{designated, designated}, []int{designated, root}, []int{root, alternate})
	w.isTree()
}
