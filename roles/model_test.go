package roles_test

import (
	"cmp"
	"slices"
	"testing"

	"gangway/api"
	"gangway/roles"
)

// order holds one vector against another one, part by part.
func order(a, b api.Vector) int {
	return cmp.Or(cmp.Compare(a.Root, b.Root), cmp.Compare(a.Cost, b.Cost), cmp.Compare(a.Bridge, b.Bridge), cmp.Compare(a.Port, b.Port), cmp.Compare(a.On, b.On))
}

// isRight tells whether a number may be a vector's part, or a cost.
func isRight(n int) bool { return n >= 0 && n <= farthest }

// wayOf is the way that a port offers, by the words of the chapter and of vectors'.
func wayOf(bridge uint64, v api.View, port int) (api.Vector, bool) {
	w := v.V
	if !isRight(w.Cost) || !isRight(w.Port) || !isRight(w.On) || !isRight(v.Cost) || w.Cost+v.Cost > farthest {
		w.Cost = farthest
	} else {
		w.Cost += v.Cost
	}
	w.On = port
	return w, v.Up && v.Told && v.V.Bridge != bridge
}

// rootOf is what Root must be: the first one when Own and all ways stand in order.
func rootOf(bridge uint64, l []api.View) (api.Vector, int) {
	all := []api.Vector{{Root: bridge, Bridge: bridge}}
	for i, v := range l {
		if w, is := wayOf(bridge, v, i+1); is {
			all = append(all, w)
		}
	}
	slices.SortStableFunc(all, order)
	return all[0], all[0].On
}

// saysOf is what a port must say.
func saysOf(bridge uint64, l []api.View, port int) api.Vector {
	root, _ := rootOf(bridge, l)
	return api.Vector{Root: root.Root, Cost: root.Cost, Bridge: bridge, Port: port, On: port}
}

// roleOf is what a port's role must be.
func roleOf(bridge uint64, l []api.View, port int) int {
	v := l[port-1]
	heard := v.V
	heard.On = port
	_, through := rootOf(bridge, l)
	better := v.Told && order(heard, saysOf(bridge, l, port)) < 0
	if !v.Up {
		return down
	}
	if port == through {
		return root
	}
	if better && v.V.Bridge == bridge {
		return backup
	}
	if better {
		return alternate
	}
	return designated
}

// source answers numbers, the same ones in each run.
func source() func(below int) int {
	x := uint64(88172645463325252)
	return func(below int) int {
		x ^= x << 13
		x ^= x >> 7
		x ^= x << 17
		return int(x >> 20 % uint64(below))
	}
}

// pick is one of l.
func pick[T any](next func(int) int, l ...T) T { return l[next(len(l))] }

// anyCost is a cost, mostly an ordinary one.
func anyCost(next func(int) int) int {
	if next(8) == 0 {
		return pick(next, numbers()...)
	}
	return next(4)
}

// anyView is what is known of a port; few numbers, so that many are the same.
func anyView(next func(int) int, bridge uint64) api.View {
	v := api.View{Up: next(6) > 0, Cost: anyCost(next), Told: next(6) > 0}
	v.V = api.Vector{Root: pick(next, 3, 4, bridge, bridge, bridge+1), Cost: anyCost(next), Bridge: pick(next, 2, 3, bridge, bridge-1, bridge+1, lastWord), Port: 1 + next(4), On: next(9)}
	if next(20) == 0 {
		v.V.Port = pick(next, numbers()...)
	}
	if next(20) == 0 {
		v.V.On = pick(next, numbers()...)
	}
	return v
}

// anyViews are what is known of some ports: at some of them stands nearly what they say themselves.
func anyViews(next func(int) int) (uint64, []api.View) {
	bridge := pick[uint64](next, 5, 5, 5, 0, 1, 1<<63, lastWord)
	var l []api.View
	for range next(7) {
		l = append(l, anyView(next, bridge))
	}
	for i := range l {
		if next(3) > 0 {
			continue
		}
		v := saysOf(bridge, l, i+1)
		switch next(8) {
		case 0:
			v.Root += uint64(pick(next, -1, 1))
		case 1:
			v.Cost += pick(next, -1, 1)
		case 2:
			v.Bridge += uint64(pick(next, -1, 1))
		case 3, 4:
			v.Port += pick(next, -1, 1)
		case 5, 6:
			v.On = next(9)
		}
		l[i].V = v
	}
	return bridge, l
}

// P14.1, P14.2, P14.3: what is answered for any ports is what the chapter's words make of them.
func TestAny(t *testing.T) {
	next := source()
	met := map[int]int{}
	for range 100000 {
		bridge, l := anyViews(next)
		was := slices.Clone(l)
		want, through := rootOf(bridge, l)
		if v, at := roles.Root(bridge, l); v != want || at != through {
			t.Fatalf("Root(%d, %+v): %+v, %d, want %+v, %d", bridge, l, v, at, want, through)
		}
		for _, port := range []int{-1, 0, 1, len(l), len(l) + 1} {
			if v := roles.Says(bridge, l, port); v != saysOf(bridge, l, port) {
				t.Fatalf("Says(%d, %+v, %d): %+v", bridge, l, port, v)
			}
		}
		all := roles.All(bridge, l)
		if len(all) != len(l) {
			t.Fatalf("All(%d, %+v): %v", bridge, l, all)
		}
		for i, r := range all {
			met[r]++
			if r != roleOf(bridge, l, i+1) {
				t.Fatalf("All(%d, %+v): %v: port %d", bridge, l, all, i+1)
			}
		}
		if !slices.Equal(l, was) {
			t.Fatalf("%+v became %+v", was, l)
		}
	}
	for _, r := range []int{down, backup, alternate, designated, root} {
		if met[r] < 1000 {
			t.Errorf("of role %d there were but %d", r, met[r])
		}
	}
}

// P14.4: at most one port is RoleRoot, and none just if Root's port is 0; who was not told anything is down or designated.
func TestFollows(t *testing.T) {
	next := source()
	roots := 0
	for range 50000 {
		bridge, l := anyViews(next)
		v, through := roles.Root(bridge, l)
		var at []int
		for i, r := range roles.All(bridge, l) {
			if r == root {
				at = append(at, i+1)
			}
			if !l[i].Told && r != down && r != designated {
				t.Fatalf("%d, %+v: port %d is not told, and %d", bridge, l, i+1, r)
			}
			if (r == down) == l[i].Up {
				t.Fatalf("%d, %+v: port %d is %d", bridge, l, i+1, r)
			}
		}
		if through == 0 && (at != nil || v != roles.Own(bridge)) || through != 0 && !slices.Equal(at, []int{through}) {
			t.Fatalf("%d, %+v: Root's port is %d, and of RoleRoot are %v", bridge, l, through, at)
		}
		roots += len(at)
	}
	if roots < 1000 {
		t.Errorf("there were but %d root ports", roots)
	}
}

// P14.4: what a port says is not better than what the root port heard, where the way through this is longer, or as long and from a better bridge.
func TestSaysIsNotBetterThanHeard(t *testing.T) {
	next := source()
	longer, asLong := 0, 0
	for range 50000 {
		bridge, l := anyViews(next)
		_, through := roles.Root(bridge, l)
		if through == 0 {
			continue
		}
		v := l[through-1]
		switch {
		case v.V.Cost < farthest && v.Cost != 0:
			longer++
		case v.V.Cost <= farthest && v.V.Bridge < bridge:
			asLong++
		default:
			continue // P14.2 may make what is said better: see TestRootPortBesides
		}
		for port := range len(l) + 2 {
			if says := roles.Says(bridge, l, port); order(says, v.V) < 0 {
				t.Fatalf("%d, %+v: port %d says %+v, port %d heard %+v", bridge, l, port, says, through, v.V)
			}
		}
	}
	if longer < 1000 || asLong < 1000 {
		t.Errorf("there were but %d, %d", longer, asLong)
	}
}
