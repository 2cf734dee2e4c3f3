package roles_test

import (
	"math"
	"slices"
	"testing"

	"gangway/api"
	"gangway/roles"
)

const (
	farthest = 1 << 32
	lastWord = math.MaxUint64

	down       = api.RoleDown
	backup     = api.RoleBackup
	alternate  = api.RoleAlternate
	designated = api.RoleDesignated
	root       = api.RoleRoot
)

// numbers are those at which something may change.
func numbers() []int {
	return []int{math.MinInt, -farthest, -2, -1, 0, 1, 2, farthest - 1, farthest, farthest + 1, math.MaxInt}
}

// vector is one of its five parts.
func vector(root uint64, cost int, bridge uint64, port, on int) api.Vector {
	return api.Vector{Root: root, Cost: cost, Bridge: bridge, Port: port, On: on}
}

// told is a port that is up, of Cost 10, at which that was heard.
func told(root uint64, cost int, bridge uint64, port int) api.View {
	return heard(vector(root, cost, bridge, port, 0))
}

// heard is such a port, too.
func heard(v api.Vector) api.View { return api.View{Up: true, Cost: 10, Told: true, V: v} }

// quiet is a port that is up, and was told nothing.
func quiet() api.View { return api.View{Up: true, Cost: 10} }

// costing is the same port of another Cost.
func costing(v api.View, cost int) api.View {
	v.Cost = cost
	return v
}

// goes holds Root against a vector and a port.
func goes(t *testing.T, bridge uint64, l []api.View, want api.Vector, through int) {
	t.Helper()
	if v, at := roles.Root(bridge, l); v != want || at != through {
		t.Errorf("Root(%d, %+v): %+v, %d, want %+v, %d", bridge, l, v, at, want, through)
	}
}

// isOwn holds Root against Own.
func isOwn(t *testing.T, bridge uint64, l []api.View) {
	t.Helper()
	goes(t, bridge, l, vector(bridge, 0, bridge, 0, 0), 0)
}

// are holds All against roles.
func are(t *testing.T, bridge uint64, l []api.View, want ...int) {
	t.Helper()
	if all := roles.All(bridge, l); !slices.Equal(all, want) {
		t.Errorf("All(%d, %+v): %v, want %v", bridge, l, all, want)
	}
}

// P14.1: of Own Root and Bridge are the bridge, all else is 0.
func TestOwn(t *testing.T) {
	for _, bridge := range []uint64{0, 1, 5, 1<<63 - 1, 1 << 63, lastWord - 1, lastWord} {
		if v := roles.Own(bridge); v != vector(bridge, 0, bridge, 0, 0) {
			t.Errorf("Own(%d): %+v", bridge, v)
		}
	}
}

// P14.1, P14.3: no port; nothing heard anywhere: Own, and all that are up are designated.
func TestNothingHeard(t *testing.T) {
	for _, bridge := range []uint64{0, 5, lastWord} {
		isOwn(t, bridge, nil)
		isOwn(t, bridge, []api.View{})
		are(t, bridge, nil)
		are(t, bridge, []api.View{})
		isOwn(t, bridge, []api.View{{}})
		are(t, bridge, []api.View{{}}, down)
		isOwn(t, bridge, []api.View{quiet()})
		are(t, bridge, []api.View{quiet()}, designated)
		isOwn(t, bridge, []api.View{quiet(), {Cost: 2}, quiet()})
		are(t, bridge, []api.View{quiet(), {Cost: 2}, quiet()}, designated, down, designated)
	}
}

// P14.1: a port offers a way just if it is Up and Told and V is not from the bridge itself.
func TestNoWay(t *testing.T) {
	way := vector(1, 0, 1, 1, 0)
	for _, x := range []struct {
		v    api.View
		role int
	}{
		{api.View{Cost: 10, Told: true, V: way}, down},
		{api.View{Cost: 10, V: way}, down},
		{api.View{Up: true, Cost: 10, V: way}, designated},
		{heard(vector(1, 0, 5, 1, 0)), backup},     // a better root, heard from the bridge itself
		{heard(vector(0, 0, 5, 0, 0)), backup},     // it may be as good as it likes
		{heard(vector(9, 0, 5, 0, 0)), designated}, // or worse
	} {
		isOwn(t, 5, []api.View{x.v})
		are(t, 5, []api.View{x.v}, x.role)
		worse := told(4, 9, 6, 1)
		goes(t, 5, []api.View{x.v, worse}, vector(4, 19, 6, 1, 2), 2)
		goes(t, 5, []api.View{worse, x.v}, vector(4, 19, 6, 1, 1), 1)
	}
	goes(t, 5, []api.View{heard(way)}, vector(1, 10, 1, 1, 1), 1)
	for _, v := range []api.Vector{{}, way, vector(0, math.MinInt, 0, math.MinInt, math.MinInt), vector(5, 0, 5, 1, 1), vector(lastWord, math.MaxInt, lastWord, math.MaxInt, math.MaxInt)} {
		for _, cost := range numbers() { // what was not heard makes no difference
			isOwn(t, 5, []api.View{{Up: true, Cost: cost, V: v}})
			are(t, 5, []api.View{{Up: true, Cost: cost, V: v}}, designated)
			isOwn(t, 5, []api.View{{Cost: cost, V: v}, {Cost: cost, Told: true, V: v}})
			are(t, 5, []api.View{{Cost: cost, V: v}, {Cost: cost, Told: true, V: v}}, down, down)
		}
	}
}

// P14.1: a better root at one port, wherever this stands.
func TestBetterRootAtOne(t *testing.T) {
	for n := range 5 {
		l := []api.View{quiet(), quiet(), {}, quiet(), told(7, 0, 7, 1)}
		l[n] = told(4, 20, 9, 3)
		want := []int{designated, designated, down, designated, designated}
		want[n] = root
		goes(t, 5, l, vector(4, 30, 9, 3, n+1), n+1)
		are(t, 5, l, want...)
	}
}

// P14.1: a root that is worse, or the bridge itself, told by another one, is no better way than Own.
func TestWorseRoot(t *testing.T) {
	for _, v := range []api.Vector{vector(6, 0, 1, 1, 1), vector(lastWord, 0, 0, 0, 0), vector(5, 0, 1, 1, 1), vector(5, 0, 6, 1, 1), vector(5, 7, 0, 0, 0)} {
		isOwn(t, 5, []api.View{heard(v)})
		isOwn(t, 5, []api.View{quiet(), heard(v), {}})
	}
	are(t, 5, []api.View{quiet(), costing(told(6, 0, 6, 1), 0), {}}, designated, designated, down)
	isOwn(t, 0, []api.View{told(0, 0, 1, 0), told(1, 0, 1, 1)}) // no root is better than 0
	goes(t, lastWord, []api.View{told(lastWord, 0, 1, 1), told(lastWord-1, farthest, lastWord-1, 1)}, vector(lastWord-1, farthest, lastWord-1, 1, 2), 2)
}

// P14.1: a way that tells of the bridge itself as the root, and costs nothing, is held against Own by its Bridge: Own's other parts are 0.
func TestWayLikeOwn(t *testing.T) {
	free := func(cost int, bridge uint64, port int) api.View { return costing(told(5, cost, bridge, port), 0) }
	isOwn(t, 5, []api.View{free(0, 6, 0)})
	isOwn(t, 5, []api.View{free(0, lastWord, 0)})
	goes(t, 5, []api.View{free(0, 4, 9)}, vector(5, 0, 4, 9, 1), 1)
	goes(t, 5, []api.View{free(0, 6, 0), free(0, 4, 9)}, vector(5, 0, 4, 9, 2), 2)
	goes(t, lastWord, []api.View{costing(told(lastWord, 0, 0, 0), 0)}, vector(lastWord, 0, 0, 0, 1), 1)
	isOwn(t, 5, []api.View{free(1, 4, 9)})
	isOwn(t, 5, []api.View{costing(free(0, 4, 9), 1)})
	isOwn(t, 5, []api.View{free(-1, 0, 0), free(0, 4, -1), costing(free(0, 4, 9), -1), costing(heard(vector(5, 0, 4, 9, -1)), 0)}) // not right: they are as far as can be
	isOwn(t, 0, []api.View{costing(told(0, 0, 1, 0), 0)})
	are(t, 5, []api.View{free(0, 6, 0), free(0, 4, 9)}, designated, root)
}

// P14.1: of several ways the best one, by each of its parts.
func TestBestWay(t *testing.T) {
	for i, x := range []struct{ good, bad api.View }{
		{told(2, 99, 9, 9), told(3, 0, 1, 1)},
		{told(2, 5, 9, 9), told(2, 6, 1, 1)},
		{costing(told(2, 9, 9, 9), 1), costing(told(2, 5, 1, 1), 6)}, // the whole way counts: 10, and 11
		{told(2, 5, 8, 9), told(2, 5, 9, 1)},
		{costing(told(2, 6, 8, 9), 3), costing(told(2, 3, 9, 1), 6)}, // both 9
		{told(2, 5, 1<<63-1, 9), told(2, 5, 1<<63, 1)},
		{told(2, 5, 8, 1), told(2, 5, 8, 2)},
		{heard(vector(2, 5, 8, 1, 9)), heard(vector(2, 5, 8, 2, 1))}, // On is not what was heard
	} {
		want := x.good.V
		want.Cost += x.good.Cost
		for n := range 4 {
			l := []api.View{x.bad, x.bad, x.bad, x.bad}
			l[n] = x.good
			want.On = n + 1
			goes(t, 5, l, want, n+1)
			if all := roles.All(5, l); all[n] != root {
				t.Errorf("%d: All(5, %+v): %v", i, l, all)
			}
		}
	}
}

// P14.1: of ways that are equal but for their ports that of the least port counts, whatever stands in On.
func TestLeastPort(t *testing.T) {
	same := heard(vector(2, 5, 8, 3, 0))
	goes(t, 9, []api.View{same, same, same}, vector(2, 15, 8, 3, 1), 1)
	are(t, 9, []api.View{same, same, same}, root, alternate, alternate)
	goes(t, 9, []api.View{quiet(), same, same}, vector(2, 15, 8, 3, 2), 2)
	are(t, 9, []api.View{quiet(), same, same}, designated, root, alternate)
	goes(t, 9, []api.View{{Cost: 10, Told: true, V: same.V}, quiet(), same, same}, vector(2, 15, 8, 3, 3), 3)
	for _, first := range []int{0, 1, 2, 9, farthest} {
		for _, then := range []int{0, 1, 2, 9, farthest} {
			l := []api.View{heard(vector(2, 5, 8, 3, first)), heard(vector(2, 5, 8, 3, then))}
			goes(t, 9, l, vector(2, 15, 8, 3, 1), 1)
			are(t, 9, l, root, alternate)
		}
	}
	l := []api.View{costing(told(2, 6, 8, 3), 4), costing(told(2, 4, 8, 3), 6)} // as far by other costs
	goes(t, 9, l, vector(2, 10, 8, 3, 1), 1)
}

// P14.1: what the way costs is what vectors.Plus tells, also where a part may not be, or the sum is too great.
func TestWayCost(t *testing.T) {
	for _, x := range []struct{ heard, cost, want int }{
		{0, 0, 0}, {3, 4, 7}, {0, 9, 9}, {9, 0, 9}, {1<<32 - 2, 1, 1<<32 - 1}, {1 << 31, 1<<31 - 1, 1<<32 - 1},
		{1<<32 - 1, 1, farthest}, {0, farthest, farthest}, {farthest, 0, farthest}, {1 << 31, 1 << 31, farthest},
		{farthest, 1, farthest}, {1, farthest, farthest}, {farthest, farthest, farthest}, {1<<32 - 1, 2, farthest},
		{-1, 4, farthest}, {math.MinInt, 0, farthest}, {-1, 1, farthest}, {farthest + 1, 0, farthest}, {math.MaxInt, 1, farthest}, {math.MaxInt, math.MaxInt, farthest},
		{3, -1, farthest}, {0, math.MinInt, farthest}, {3, farthest + 1, farthest}, {3, math.MaxInt, farthest}, {-1, -1, farthest}, {math.MinInt, math.MinInt, farthest},
	} {
		v := costing(told(2, x.heard, 8, 3), x.cost)
		goes(t, 5, []api.View{v}, vector(2, x.want, 8, 3, 1), 1)
		goes(t, 5, []api.View{{}, v}, vector(2, x.want, 8, 3, 2), 2)
		if says := roles.Says(5, []api.View{v}, 7); says != vector(2, x.want, 5, 7, 7) {
			t.Errorf("Says of %+v: %+v", v, says)
		}
	}
}

// P14.1: a V whose Port or On may not be is as far as can be; its Port stays, its On is the port's number.
func TestWayNotRight(t *testing.T) {
	right := told(2, 7, 9, 9)
	for _, n := range numbers() {
		cost := 15
		if !isRight(n) {
			cost = farthest
		}
		goes(t, 5, []api.View{heard(vector(2, 5, 8, n, 1))}, vector(2, cost, 8, n, 1), 1)
		goes(t, 5, []api.View{quiet(), heard(vector(2, 5, 8, 3, n))}, vector(2, cost, 8, 3, 2), 2)
		if !isRight(n) {
			goes(t, 5, []api.View{heard(vector(2, n, 0, 0, 0)), heard(vector(2, 0, 0, n, 0)), heard(vector(2, 0, 0, 0, n)), costing(right, n), right}, vector(2, 17, 9, 9, 5), 5)
		}
	}
	goes(t, 5, []api.View{heard(vector(2, 5, 8, 3, -1)), heard(vector(2, 5, 8, -1, 0))}, vector(2, farthest, 8, -1, 2), 2) // of what is as far the lesser Port
}

// P14.2: what a port says: the root, how far it is, the bridge, and twice the port's number, whatever this is.
func TestSays(t *testing.T) {
	heardOf := []api.View{quiet(), told(2, 5, 8, 3), told(2, 6, 7, 3), {}}
	for _, port := range append(numbers(), 3, 4, 5, 64, 65) {
		if v := roles.Says(5, heardOf, port); v != vector(2, 15, 5, port, port) {
			t.Errorf("Says(%d): %+v", port, v)
		}
		if v := roles.Says(lastWord, heardOf, port); v != vector(2, 15, lastWord, port, port) {
			t.Errorf("Says(%d): %+v", port, v)
		}
		for _, bridge := range []uint64{0, 1, 1 << 63, lastWord} {
			for _, l := range [][]api.View{nil, {}, {{}}, {quiet(), quiet()}, {told(bridge, 1, 7, 1)}, {told(0, 0, bridge, 1)}} {
				if v := roles.Says(bridge, l, port); v != vector(bridge, 0, bridge, port, port) {
					t.Errorf("Says(%d, %+v, %d): %+v", bridge, l, port, v)
				}
			}
		}
	}
}

// P14.3: one port of each role.
func TestEachRole(t *testing.T) {
	l := []api.View{
		{Cost: 10, Told: true, V: vector(1, 0, 1, 1, 1)}, // it would be best, were it up
		told(2, 15, 5, 1), // what the first port says
		told(2, 15, 4, 1), // another bridge, as far, that is better
		told(2, 15, 6, 1), // and one that is worse
		told(2, 5, 8, 3),  // the best way
		quiet(),
	}
	are(t, 5, l, down, backup, alternate, designated, root, designated)
	slices.Reverse(l)
	are(t, 5, l, designated, root, designated, alternate, backup, down)
	are(t, 5, []api.View{{}}, down)
	are(t, 5, []api.View{quiet()}, designated)
	are(t, 5, []api.View{told(2, 5, 8, 3)}, root)
	are(t, 5, []api.View{quiet(), told(5, 0, 5, 1)}, designated, backup)
	are(t, 5, []api.View{told(2, 5, 8, 3), told(2, 5, 8, 4)}, root, alternate)
}

// P14.3: V is held against what the port says, part by part, here from another bridge.
func TestAgainstAnother(t *testing.T) {
	best := costing(told(2, 5, 8, 3), 10) // port 2 says 2, 15, 5, 2, 2
	for _, x := range []struct {
		v    api.Vector
		want int
	}{
		{vector(2, 14, 9, 9, 9), alternate},
		{vector(2, 15, 4, 9, 9), alternate},
		{vector(2, 15, 6, 0, 0), designated},
		{vector(2, 16, 4, 0, 0), designated},
		{vector(3, 0, 4, 0, 0), designated},
		{vector(lastWord, 0, 0, 0, 0), designated},
		{vector(2, 15, 0, 0, 0), alternate},
		{vector(2, 15, 1<<63, 0, 0), designated},
		{vector(2, -1, 9, 9, 9), alternate}, // it is no good way, but it is held as it was heard
		{vector(2, math.MinInt, 4, 9, 9), alternate},
		{vector(2, 15, 4, -1, 9), alternate},
		{vector(2, 15, 6, math.MinInt, 0), designated},
		{vector(0, farthest+1, 6, 1, 1), root}, // its root is better, however far it is
		{vector(2, farthest, 4, 1, 1), designated},
		{vector(2, math.MaxInt, 4, 1, 1), designated},
		{vector(2, 14, 9, 9, math.MinInt), alternate}, // On makes no difference
		{vector(2, 16, 4, 0, math.MinInt), designated},
		{vector(2, 15, 4, 9, math.MaxInt), alternate},
		{vector(2, 15, 6, 0, math.MaxInt), designated},
	} {
		l := []api.View{best, heard(x.v)}
		if all := roles.All(5, l); len(all) != 2 || all[1] != x.want {
			t.Errorf("All(5, %+v): %v, want %d at port 2", l, all, x.want)
		}
	}
}

// P14.3: V is held against what the port says, part by part, here from the bridge itself: its On is the port's number, so that of the same Port they are equal.
func TestAgainstItself(t *testing.T) {
	best := costing(told(2, 5, 8, 3), 10) // port 2 says 2, 15, 5, 2, 2
	for _, x := range []struct {
		root       uint64
		cost, port int
		want       int
	}{
		{2, 15, 1, backup}, {2, 15, 0, backup}, {2, 15, -1, backup}, {2, 15, math.MinInt, backup},
		{2, 15, 2, designated}, // what it says itself
		{2, 15, 3, designated}, {2, 15, math.MaxInt, designated},
		{2, 14, 9, backup}, {2, math.MinInt, 9, backup}, {2, 16, 1, designated}, {2, math.MaxInt, 1, designated},
		{1, 99, 9, backup}, {0, math.MaxInt, 9, backup}, {3, 0, 1, designated}, {lastWord, 0, 0, designated},
	} {
		for _, on := range append(numbers(), 3) {
			are(t, 5, []api.View{best, heard(vector(x.root, x.cost, 5, x.port, on))}, root, x.want)
		}
	}
}

// P14.3: the bridge hears itself, and is the root: the lesser port says what is better.
func TestHearsItself(t *testing.T) {
	for _, bridge := range []uint64{0, 5, 1 << 63, lastWord} {
		say := func(port, on int) api.View { return heard(vector(bridge, 0, bridge, port, on)) }
		are(t, bridge, []api.View{say(2, 1), say(1, 2)}, designated, backup)
		are(t, bridge, []api.View{say(1, 1), say(2, 2)}, designated, designated) // each one what it says itself
		are(t, bridge, []api.View{say(1, 0), say(2, 9), say(3, -9)}, designated, designated, designated)
		are(t, bridge, []api.View{say(3, 0), quiet(), say(1, 0), say(3, 0)}, designated, designated, backup, backup)
		isOwn(t, bridge, []api.View{say(2, 1), say(1, 2)})
	}
}

// P14.3: what a port is first named to be it is: down also where it has the best way, RoleRoot also where what it heard would make it an alternate one.
func TestFirstNamed(t *testing.T) {
	best := told(2, 5, 4, 3)
	isDown := best
	isDown.Up = false
	are(t, 5, []api.View{best}, root) // 2, 5, 4 is better than 2, 15, 5
	are(t, 5, []api.View{isDown}, down)
	are(t, 5, []api.View{isDown, best}, down, root)
	are(t, 5, []api.View{isDown, told(5, 0, 5, 1)}, down, backup)
	silent := best
	silent.Told = false
	are(t, 5, []api.View{silent}, designated)
	are(t, 5, []api.View{silent, best}, designated, root)
	mine := best // better than what it says, from the bridge itself, and not told
	mine.Told, mine.V.Bridge = false, 5
	are(t, 5, []api.View{mine, best}, designated, root)
}

// P14.3: a root port whose V is not better than what it says is RoleRoot all the same: the way through it costs nothing, or as much as can be.
func TestRootPortBesides(t *testing.T) {
	for _, x := range []struct{ v, other api.View }{
		{costing(told(2, 5, 8, 3), 0), told(2, 5, 7, 3)},                    // it says 2, 5, 5
		{costing(told(2, farthest, 8, 3), 10), told(2, farthest, 9, 3)},     // it says 2, 2^32, 5
		{costing(told(2, farthest+1, 8, 3), 10), told(2, farthest+1, 8, 4)}, // it says 2, 2^32, 5, which is less
		{costing(told(2, math.MaxInt, 8, 3), 10), told(2, math.MaxInt, 8, 3)},
	} {
		are(t, 5, []api.View{x.v}, root)
		are(t, 5, []api.View{x.v, x.other}, root, designated)
		if says := roles.Says(5, []api.View{x.v}, 1); order(says, x.v.V) >= 0 {
			t.Errorf("%+v is said at %+v", says, x.v)
		}
	}
}

// R4: what is handed in stays, with the room behind it; what stands there makes no difference.
func TestHandedInStays(t *testing.T) {
	room := []api.View{told(2, 5, 8, 3), told(2, 4, 1<<63, 3), quiet(), {}, told(2, 15, 5, 1), told(0, 0, 0, 0), told(1, -1, 1, -1)}
	room = append(make([]api.View, 0, 99), room...)
	was := slices.Clone(room)
	l := room[:5]
	for range 3 {
		goes(t, 5, l, vector(2, 14, 1<<63, 3, 2), 2)
		are(t, 5, l, alternate, root, designated, down, designated)
		if v := roles.Says(5, l, 6); v != vector(2, 14, 5, 6, 6) {
			t.Errorf("Says: %+v", v)
		}
	}
	if !slices.Equal(room, was) {
		t.Errorf("it was %+v, and is %+v", was, room)
	}
	if behind := room[:99][len(was):]; slices.ContainsFunc(behind, func(v api.View) bool { return v != api.View{} }) {
		t.Errorf("behind it stands %+v", behind)
	}
}

// R4, R5: what All answers may be changed by who asked: neither a later answer nor an earlier one changes.
func TestAnswerIsNew(t *testing.T) {
	l := []api.View{told(2, 5, 8, 3), quiet(), {}}
	first := roles.All(5, l)
	for range 3 {
		then := roles.All(5, l)
		for i := range then {
			then[i] = -7
		}
		_ = append(then[:0], 9, 9, 9, 9, 9)
		for i := range then[:cap(then)] {
			then[:cap(then)][i] = 8
		}
		are(t, 5, l, root, designated, down)
	}
	if !slices.Equal(first, []int{root, designated, down}) {
		t.Errorf("the first answer became %v", first)
	}
	l[0] = quiet() // what was handed in is its owner's again
	if !slices.Equal(first, []int{root, designated, down}) {
		t.Errorf("the first answer became %v", first)
	}
	are(t, 5, l, designated, designated, down)
	isOwn(t, 5, l)
}

// R1: many ports.
func TestManyPorts(t *testing.T) {
	const many = 300000
	l := make([]api.View, many)
	for i := range l {
		l[i] = told(2, many-i, uint64(9+i), i)
	}
	goes(t, 5, l, vector(2, 11, many+8, many-1, many), many)
	all := roles.All(5, l)
	if len(all) != many {
		t.Fatalf("of %d ports %d roles", many, len(all))
	}
	for i, r := range all {
		want := designated // it says a Cost of 11, as all others do
		switch {
		case i == many-1:
			want = root
		case many-i < 11:
			want = alternate
		}
		if r != want {
			t.Fatalf("port %d: %d, want %d", i+1, r, want)
		}
	}
}
