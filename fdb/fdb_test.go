package fdb_test

import (
	"math"
	"slices"
	"testing"

	"gangway/api"
	"gangway/fdb"
)

const (
	lastTime = 1 << 40
	lastMac  = 1<<48 - 1
	lastOwn  = 0xfeffffffffff // the greatest address that is a host's
	firstBit = 1 << 40        // the least address that is a group's
)

// noTimes are numbers that are no time.
func noTimes() []int { return []int{-1, lastTime + 1, math.MinInt, math.MaxInt} }

// noVids are numbers that are no VLAN's; some of them are 1 modulo a power of 2.
func noVids() []int {
	return []int{0, 4095, 4096, 4097, -1, 1 + 1<<16, 1 + 1<<32, math.MinInt, math.MinInt + 1, math.MaxInt}
}

// noHosts are addresses that are no host's; some of them have a host's in their lowest 48 bits.
func noHosts() []uint64 {
	return []uint64{0, firstBit, firstBit | 2, api.SpanGroup, api.Broadcast, 1 << 48, 1<<48 | 2, 1<<49 | 2, 2<<48 | 2, math.MaxUint64}
}

// noTargets are none; some of them have the kind and the number of one but for their highest bits.
func noTargets() []api.Target {
	return []api.Target{
		{}, port(65), port(math.MaxUint32), peer(0),
		{Kind: 2}, {Kind: 2, N: 1}, {Kind: -1, N: 1}, {Kind: 1 << 32, N: 1}, {Kind: 1<<32 + 1, N: 1}, {Kind: math.MinInt, N: 1}, {Kind: math.MaxInt, N: 1},
	}
}

func port(n uint32) api.Target { return api.Target{Kind: api.AtPort, N: n} }

func peer(n uint32) api.Target { return api.Target{Kind: api.AtPeer, N: n} }

// at is a place that is not fixed.
func at(vid int, mac uint64, to api.Target, now int) api.Place {
	return api.Place{Vid: vid, Mac: mac, To: to, At: now}
}

// fixed is one that is.
func fixed(vid int, mac uint64, to api.Target) api.Place {
	return api.Place{Vid: vid, Mac: mac, To: to, Fixed: true}
}

// keep is how most of these tables are kept: room for 4, a life of 100, at most so many moves in 10.
func keep(moves int) api.Keep { return api.Keep{Room: 4, Life: 100, Moves: moves, Window: 10} }

// table is an empty one.
func table(t *testing.T, c api.Keep) *fdb.Table {
	t.Helper()
	k, e := fdb.New(c)
	if k == nil || e != api.OK {
		t.Fatalf("New(%+v): %v, %v", c, k, e)
	}
	return k
}

// heard is what is learnt, and what is answered.
type heard struct {
	vid  int
	mac  uint64
	to   api.Target
	now  int
	want int
}

// learn learns one after the other.
func learn(t *testing.T, k *fdb.Table, l ...heard) {
	t.Helper()
	for _, x := range l {
		if got := k.Learn(x.vid, x.mac, x.to, x.now); got != x.want {
			t.Errorf("Learn(%d, %#x, %+v, %d): %d, want %d", x.vid, x.mac, x.to, x.now, got, x.want)
		}
	}
}

// fix fixes, where nothing is wrong.
func fix(t *testing.T, k *fdb.Table, vid int, mac uint64, to api.Target) {
	t.Helper()
	if !k.Fix(vid, mac, to) {
		t.Fatalf("Fix(%d, %#x, %+v): no", vid, mac, to)
	}
}

// has holds a table's places against those that it should have.
func has(t *testing.T, k *fdb.Table, want ...api.Place) {
	t.Helper()
	if got := k.Places(); !slices.Equal(got, want) {
		t.Errorf("it has %+v, want %+v", got, want)
	}
}

// next are the answers to what is learnt of some addresses at and about a time, again and again, with copies.
func next(k *fdb.Table, now int) []int {
	var out []int
	for _, mac := range []uint64{2, 4, 6} {
		for vid := 1; vid <= 2; vid++ {
			for _, d := range []int{0, 1, 5, 9, 10, 11, 99, 100} {
				c := k.Copy()
				for i := range uint32(4) {
					out = append(out, c.Learn(vid, mac, port(1+i%2), now+d))
				}
			}
		}
	}
	return out
}

// stays tells whether a table has the same places, and moves, as far as can be told at a time, when something was done.
func stays(t *testing.T, k *fdb.Table, now int, name string, do func()) {
	t.Helper()
	places, answers := k.Places(), next(k, now)
	do()
	if got := k.Places(); !slices.Equal(got, places) {
		t.Errorf("%s: it has %+v, had %+v", name, got, places)
	}
	if !slices.Equal(next(k, now), answers) {
		t.Errorf("%s: something changed", name)
	}
}

// source answers numbers, the same ones in each run.
func source() func() uint64 {
	x := uint64(88172645463325252)
	return func() uint64 {
		x ^= x << 13
		x ^= x >> 7
		x ^= x << 17
		return x
	}
}

// P11.1: room and life are as ages says, Moves is 0 to 64, Window 1 to 2^40.
func TestNew(t *testing.T) {
	good := api.Keep{Room: 2, Life: 3, Moves: 4, Window: 5}
	with := func(change func(c *api.Keep, n int), n int) api.Keep {
		c := good
		change(&c, n)
		return c
	}
	for _, x := range []struct {
		name   string
		change func(c *api.Keep, n int)
		right  []int
		wrong  []int
	}{
		{"Room", func(c *api.Keep, n int) { c.Room = n }, []int{1, 4096}, []int{0, -1, 4097, math.MinInt, math.MaxInt}},
		{"Life", func(c *api.Keep, n int) { c.Life = n }, []int{1, lastTime}, []int{0, -1, lastTime + 1, math.MinInt, math.MaxInt}},
		{"Moves", func(c *api.Keep, n int) { c.Moves = n }, []int{0, 1, 64}, []int{-1, 65, math.MinInt, math.MaxInt}},
		{"Window", func(c *api.Keep, n int) { c.Window = n }, []int{1, lastTime}, []int{0, -1, lastTime + 1, math.MinInt, math.MaxInt}},
	} {
		for _, n := range x.right {
			has(t, table(t, with(x.change, n)))
		}
		for _, n := range x.wrong {
			if k, e := fdb.New(with(x.change, n)); k != nil || e != api.ErrArg {
				t.Errorf("%s %d: %v, %v", x.name, n, k, e)
			}
		}
	}
	if k, e := fdb.New(api.Keep{}); k != nil || e != api.ErrArg {
		t.Errorf("%v, %v", k, e)
	}
}

// P11.1: two tables have nothing in common.
func TestNewAgain(t *testing.T) {
	a, b := table(t, keep(1)), table(t, keep(1))
	learn(t, a, heard{1, 2, port(1), 0, api.LearntNew}, heard{1, 2, port(2), 0, api.LearntMoved})
	has(t, b)
	learn(t, b, heard{1, 2, port(1), 0, api.LearntNew}, heard{1, 2, port(2), 0, api.LearntMoved})
}

// P11.2: the chapter's example.
func TestExample(t *testing.T) {
	for _, x := range []struct{ moves, second, third int }{
		{0, api.LearntHeld, api.LearntSame}, {1, api.LearntMoved, api.LearntHeld}, {2, api.LearntMoved, api.LearntMoved}, {64, api.LearntMoved, api.LearntMoved},
	} {
		learn(t, table(t, keep(x.moves)),
			heard{1, 2, port(1), 0, api.LearntNew}, heard{1, 2, port(1), 0, api.LearntSame},
			heard{1, 2, port(2), 0, x.second}, heard{1, 2, port(1), 0, x.third})
	}
}

// P11.2, P11.3: an address may be noted in the VLANs 1 to 4094, if it is a host's.
func TestNoted(t *testing.T) {
	for _, vid := range []int{1, 2, 4093, 4094} {
		for _, mac := range []uint64{1, 2, firstBit - 1, 2 << 40, lastOwn} {
			k := table(t, keep(1))
			learn(t, k, heard{vid, mac, port(1), 3, api.LearntNew})
			has(t, k, at(vid, mac, port(1), 3))
			if to, is := k.Find(vid, mac, 3); to != port(1) || !is {
				t.Errorf("Find(%d, %#x): %+v, %v", vid, mac, to, is)
			}
			fix(t, k, vid, mac, port(2))
			has(t, k, fixed(vid, mac, port(2)))
			if !k.Forget(vid, mac) {
				t.Errorf("Forget(%d, %#x): no", vid, mac)
			}
			has(t, k)
		}
	}
}

// P11.2, P11.3: no other one may, and none is taken for one that may.
func TestNotNoted(t *testing.T) {
	k := table(t, keep(1))
	learn(t, k, heard{1, 2, port(1), 3, api.LearntNew}, heard{2, 2, port(1), 3, api.LearntNew}, heard{3, 2, port(1), 3, api.LearntNew})
	refuse := func(vid int, mac uint64) {
		t.Helper()
		stays(t, k, 3, "no host's", func() {
			for _, to := range []api.Target{port(1), port(2), peer(1)} {
				learn(t, k, heard{vid, mac, to, 3, api.LearntNone})
				if k.Fix(vid, mac, to) {
					t.Errorf("Fix(%d, %#x): yes", vid, mac)
				}
			}
			if to, is := k.Find(vid, mac, 3); to != (api.Target{}) || is {
				t.Errorf("Find(%d, %#x): %+v, %v", vid, mac, to, is)
			}
			if k.Forget(vid, mac) {
				t.Errorf("Forget(%d, %#x): yes", vid, mac)
			}
		})
	}
	for _, vid := range noVids() {
		refuse(vid, 2)
	}
	for _, mac := range noHosts() {
		refuse(0, mac)
		refuse(1, mac)
		refuse(2, mac)
	}
}

// P11.2, P11.3: a target is at a port from 1 to 64, or behind any gateway but 0.
func TestTargets(t *testing.T) {
	for _, to := range []api.Target{port(1), port(2), port(63), port(64), peer(1), peer(64), peer(65), peer(0x0a000001), peer(math.MaxUint32)} {
		k := table(t, keep(1))
		learn(t, k, heard{1, 2, to, 3, api.LearntNew}, heard{1, 2, to, 4, api.LearntSame})
		fix(t, k, 1, 4, to)
		has(t, k, at(1, 2, to, 4), fixed(1, 4, to))
		if got, is := k.Find(1, 2, 4); got != to || !is {
			t.Errorf("Find: %+v, %v, want %+v", got, is, to)
		}
		if n := k.Flush(to); n != 1 {
			t.Errorf("Flush(%+v): %d", to, n)
		}
		has(t, k, fixed(1, 4, to))
	}
}

// P11.2, P11.3: nothing is noted at what is no target, and nothing is there.
func TestNoTargets(t *testing.T) {
	k := table(t, keep(1))
	learn(t, k, heard{1, 2, port(1), 3, api.LearntNew}, heard{1, 4, peer(1), 3, api.LearntNew})
	for _, to := range noTargets() {
		stays(t, k, 3, "no target", func() {
			for _, mac := range []uint64{2, 4, 6} {
				learn(t, k, heard{1, mac, to, 3, api.LearntNone})
				if k.Fix(1, mac, to) {
					t.Errorf("Fix(1, %d, %+v): yes", mac, to)
				}
			}
			if n := k.Flush(to); n != 0 {
				t.Errorf("Flush(%+v): %d", to, n)
			}
		})
	}
}

// P11.2: a port and a gateway of the same number are two targets.
func TestKindsOfTargets(t *testing.T) {
	k := table(t, keep(1))
	learn(t, k, heard{1, 2, port(7), 0, api.LearntNew}, heard{1, 2, peer(7), 0, api.LearntMoved}, heard{1, 4, port(7), 0, api.LearntNew})
	if n := k.Flush(port(7)); n != 1 {
		t.Error(n)
	}
	has(t, k, at(1, 2, peer(7), 0))
}

// P11.2, P11.3: the first time and the last one are times.
func TestTimes(t *testing.T) {
	for _, now := range []int{0, 1, lastTime - 1, lastTime} {
		k := table(t, keep(1))
		learn(t, k, heard{1, 2, port(1), now, api.LearntNew}, heard{1, 2, port(1), now, api.LearntSame}, heard{1, 2, port(2), now, api.LearntMoved}, heard{1, 2, port(1), now, api.LearntHeld})
		has(t, k, at(1, 2, port(2), now))
		if to, is := k.Find(1, 2, now); to != port(2) || !is {
			t.Errorf("Find at %d: %+v, %v", now, to, is)
		}
		if n := k.Expire(now); n != 0 {
			t.Errorf("Expire(%d): %d", now, n)
		}
	}
}

// P11.2, P11.3: at what is no time nothing is learnt, found, or taken out; moves stay, too.
func TestNoTimes(t *testing.T) {
	k := table(t, api.Keep{Room: 4, Life: 1, Moves: 1, Window: 10})
	fix(t, k, 1, 4, port(1))
	learn(t, k, heard{1, 2, port(1), 3, api.LearntNew}, heard{1, 2, port(2), 3, api.LearntMoved})
	for _, now := range noTimes() {
		stays(t, k, 3, "no time", func() {
			for _, mac := range []uint64{2, 4, 6} {
				for _, to := range []api.Target{port(1), port(2)} {
					learn(t, k, heard{1, mac, to, now, api.LearntNone})
				}
				if to, is := k.Find(1, mac, now); to != (api.Target{}) || is {
					t.Errorf("Find(1, %d, %d): %+v, %v", mac, now, to, is)
				}
			}
			if n := k.Expire(now); n != 0 {
				t.Errorf("Expire(%d): %d", now, n)
			}
		})
	}
	learn(t, k, heard{1, 2, port(1), 3, api.LearntHeld})
}

// P11.2: what is learnt again at its target is there since now, later or earlier; that is no move, and no other one goes.
func TestSame(t *testing.T) {
	k := table(t, keep(1))
	learn(t, k, heard{1, 2, port(1), 50, api.LearntNew}, heard{1, 4, port(1), 0, api.LearntNew})
	for _, now := range []int{51, 52, 52, 40, 139} {
		learn(t, k, heard{1, 2, port(1), now, api.LearntSame})
		has(t, k, at(1, 2, port(1), now), at(1, 4, port(1), 0))
	}
	learn(t, k, heard{1, 2, port(2), 139, api.LearntMoved})
}

// P11.2: what is learnt at another target is there since now.
func TestMoved(t *testing.T) {
	k := table(t, keep(64))
	learn(t, k, heard{1, 2, port(1), 50, api.LearntNew}, heard{1, 4, port(1), 0, api.LearntNew})
	for i, now := range []int{51, 51, 40, 130} {
		to := []api.Target{port(2), peer(2), port(3), port(1)}[i]
		learn(t, k, heard{1, 2, to, now, api.LearntMoved})
		has(t, k, at(1, 2, to, now), at(1, 4, port(1), 0))
		if got, is := k.Find(1, 2, now); got != to || !is {
			t.Errorf("Find: %+v, %v, want %+v", got, is, to)
		}
	}
}

// P11.2: as many moves as Moves, then one more: all stays, its time too; what is held is no move.
func TestHeld(t *testing.T) {
	for _, moves := range []int{0, 1, 2, 3, 63, 64} {
		k := table(t, api.Keep{Room: 4, Life: 1000, Moves: moves, Window: 100})
		learn(t, k, heard{1, 2, port(1), 0, api.LearntNew})
		for i := range moves {
			learn(t, k, heard{1, 2, port(1 + uint32(i+1)%2), 1 + i, api.LearntMoved})
		}
		is, other := port(1+uint32(moves)%2), port(1+uint32(moves+1)%2)
		has(t, k, at(1, 2, is, moves))
		for _, now := range []int{moves, moves, 70, 99, 100} {
			stays(t, k, now, "held", func() {
				learn(t, k, heard{1, 2, other, now, api.LearntHeld}, heard{1, 2, peer(9), now, api.LearntHeld})
			})
			has(t, k, at(1, 2, is, moves))
		}
		if moves > 0 { // the first move was at 1, and none that was held is one
			learn(t, k, heard{1, 2, other, 101, api.LearntMoved}, heard{1, 2, is, 101, api.LearntHeld})
		}
	}
}

// P11.2: without moves an address stays where it is till it is old.
func TestNoMoves(t *testing.T) {
	k := table(t, keep(0))
	learn(t, k,
		heard{1, 2, port(1), 0, api.LearntNew}, heard{1, 2, port(2), 0, api.LearntHeld}, heard{1, 2, port(2), 99, api.LearntHeld},
		heard{1, 2, port(2), 100, api.LearntNew}, heard{1, 2, port(1), 199, api.LearntHeld}, heard{1, 2, port(2), 199, api.LearntSame},
		heard{1, 2, port(1), 298, api.LearntHeld}, heard{1, 2, port(1), 299, api.LearntNew})
}

// P11.2: a move counts while now less its time is below Window, and no longer.
func TestWindowEdge(t *testing.T) {
	for _, window := range []int{1, 2, 10, 1 << 20, lastTime} {
		c := api.Keep{Room: 4, Life: lastTime, Moves: 1, Window: window}
		for _, x := range []struct{ now, want int }{
			{0, api.LearntHeld}, {window - 1, api.LearntHeld}, {window, api.LearntMoved}, {window + 1, api.LearntMoved},
		} {
			if x.now+1 > lastTime {
				continue
			}
			learn(t, table(t, c), heard{1, 2, port(1), 1, api.LearntNew}, heard{1, 2, port(2), 1, api.LearntMoved}, heard{1, 2, port(1), 1 + x.now, x.want})
		}
	}
}

// P11.2: each move goes out of the window at its own time.
func TestWindowSlides(t *testing.T) {
	learn(t, table(t, keep(2)),
		heard{1, 2, port(1), 0, api.LearntNew},
		heard{1, 2, port(2), 0, api.LearntMoved}, heard{1, 2, port(1), 5, api.LearntMoved}, heard{1, 2, port(2), 9, api.LearntHeld},
		heard{1, 2, port(2), 10, api.LearntMoved}, heard{1, 2, port(1), 14, api.LearntHeld},
		heard{1, 2, port(1), 15, api.LearntMoved}, heard{1, 2, port(2), 19, api.LearntHeld},
		heard{1, 2, port(2), 30, api.LearntMoved}, heard{1, 2, port(1), 30, api.LearntMoved}, heard{1, 2, port(2), 30, api.LearntHeld}, heard{1, 2, port(2), 39, api.LearntHeld},
		heard{1, 2, port(2), 40, api.LearntMoved}, heard{1, 2, port(1), 40, api.LearntMoved}, heard{1, 2, port(2), 40, api.LearntHeld})
}

// P11.2: a move counts at each time that is earlier than its own.
func TestEarlierTimes(t *testing.T) {
	for _, now := range []int{0, 1, 39, 40, 49, 50, 59} {
		k := table(t, keep(1))
		learn(t, k, heard{1, 2, port(1), 50, api.LearntNew}, heard{1, 2, port(2), 50, api.LearntMoved})
		stays(t, k, 50, "earlier", func() { learn(t, k, heard{1, 2, port(1), now, api.LearntHeld}) })
		learn(t, k, heard{1, 2, port(1), 60, api.LearntMoved})
	}
}

// P11.2: moves that came out of order count each at its own time.
func TestUnorderedMoves(t *testing.T) {
	learn(t, table(t, keep(2)),
		heard{1, 2, port(1), 50, api.LearntNew},
		heard{1, 2, port(2), 50, api.LearntMoved}, heard{1, 2, port(1), 30, api.LearntMoved},
		heard{1, 2, port(2), 0, api.LearntHeld}, heard{1, 2, port(2), 39, api.LearntHeld},
		heard{1, 2, port(2), 40, api.LearntMoved}, heard{1, 2, port(1), 49, api.LearntHeld},
		heard{1, 2, port(1), 50, api.LearntMoved}, heard{1, 2, port(2), 59, api.LearntHeld},
		heard{1, 2, port(2), 60, api.LearntMoved}, heard{1, 2, port(1), 60, api.LearntMoved}, heard{1, 2, port(2), 60, api.LearntHeld})
}

// P11.2: moves are an address' own, in a VLAN.
func TestOwnMoves(t *testing.T) {
	k := table(t, keep(1))
	for _, x := range []struct {
		vid int
		mac uint64
	}{{1, 2}, {2, 2}, {1, 4}, {4094, lastOwn}} {
		learn(t, k, heard{x.vid, x.mac, port(1), 0, api.LearntNew}, heard{x.vid, x.mac, port(2), 1, api.LearntMoved})
	}
	for _, x := range []struct {
		vid int
		mac uint64
	}{{1, 2}, {2, 2}, {1, 4}, {4094, lastOwn}} {
		learn(t, k, heard{x.vid, x.mac, port(1), 2, api.LearntHeld})
	}
}

// P11.2: moves are kept, and count, whatever becomes of the place.
func TestKeptMoves(t *testing.T) {
	for _, x := range []struct {
		name string
		do   func(k *fdb.Table)
	}{
		{"forgotten", func(k *fdb.Table) { k.Forget(1, 2) }},
		{"flushed", func(k *fdb.Table) { k.Flush(port(2)) }},
		{"expired", func(k *fdb.Table) { k.Expire(6) }},
		{"old", func(k *fdb.Table) {}},
		{"gone as an old one", func(k *fdb.Table) { k.Learn(1, 4, port(1), 6); k.Forget(1, 4) }},
		{"gone for other ones", func(k *fdb.Table) { k.Learn(1, 4, port(1), 2); k.Learn(1, 6, port(1), 3) }},
		{"gone for fixed ones", func(k *fdb.Table) { k.Fix(1, 4, port(1)); k.Fix(1, 6, port(1)); k.Forget(1, 4) }},
		{"fixed, and forgotten", func(k *fdb.Table) { k.Fix(1, 2, port(3)); k.Forget(1, 2) }},
		{"forgotten twice", func(k *fdb.Table) { k.Forget(1, 2); k.Learn(1, 2, port(3), 3); k.Forget(1, 2) }},
		{"copied", func(k *fdb.Table) { *k = *k.Copy(); k.Forget(1, 2) }},
	} {
		k := table(t, api.Keep{Room: 2, Life: 5, Moves: 1, Window: 10})
		learn(t, k, heard{1, 2, port(1), 0, api.LearntNew}, heard{1, 2, port(2), 1, api.LearntMoved})
		x.do(k)
		if _, is := k.Find(1, 2, 6); is {
			t.Errorf("%s: it is there", x.name)
		}
		learn(t, k, heard{1, 2, port(1), 6, api.LearntNew}, heard{1, 2, port(2), 7, api.LearntHeld}, heard{1, 2, port(1), 8, api.LearntSame}, heard{1, 2, port(2), 10, api.LearntHeld}, heard{1, 2, port(2), 11, api.LearntMoved})
		if t.Failed() {
			t.Fatal(x.name)
		}
	}
}

// P11.2: what is fixed is not learnt, at its own target, at another one, at whatever time; its moves stay, too.
func TestFixed(t *testing.T) {
	for _, moves := range []int{0, 1, 64} {
		k := table(t, keep(moves))
		learn(t, k, heard{1, 2, port(1), 0, api.LearntNew}, heard{1, 4, port(1), 0, api.LearntNew})
		k.Learn(1, 2, port(2), 1)
		fix(t, k, 1, 2, peer(3))
		for _, now := range []int{0, 1, 2, 99, 100, 500, lastTime} {
			for _, to := range []api.Target{peer(3), port(3), port(1)} {
				stays(t, k, 2, "fixed", func() { learn(t, k, heard{1, 2, to, now, api.LearntNone}) })
				has(t, k, fixed(1, 2, peer(3)), at(1, 4, port(1), 0))
			}
		}
		k.Forget(1, 2)
		learn(t, k, heard{1, 2, port(1), 2, api.LearntNew}, heard{1, 2, port(2), 2, []int{api.LearntHeld, api.LearntHeld, api.LearntMoved}[min(moves, 2)]})
	}
}

// P11.2: what is old is learnt as what was never there, at its own target and at another one; that is no move.
func TestOldAgain(t *testing.T) {
	for _, to := range []api.Target{port(1), port(2), peer(1)} {
		for _, x := range []struct{ now, want int }{{109, api.LearntMoved}, {110, api.LearntNew}, {111, api.LearntNew}, {lastTime - 1, api.LearntNew}} {
			k := table(t, keep(1))
			learn(t, k, heard{1, 2, port(1), 10, api.LearntNew}, heard{1, 4, port(1), 10, api.LearntNew})
			if x.now == 109 && to == port(1) {
				x.want = api.LearntSame
			}
			learn(t, k, heard{1, 2, to, x.now, x.want})
			has(t, k, at(1, 2, to, x.now), at(1, 4, port(1), 10))
			if x.want == api.LearntNew {
				learn(t, k, heard{1, 2, port(3), x.now, api.LearntMoved}, heard{1, 2, port(4), x.now + 1, api.LearntHeld})
			}
		}
	}
}

// P11.2: what is old is not held, though its moves count.
func TestOldIsNotHeld(t *testing.T) {
	k := table(t, api.Keep{Room: 4, Life: 5, Moves: 1, Window: 100})
	learn(t, k,
		heard{1, 2, port(1), 0, api.LearntNew}, heard{1, 2, port(2), 0, api.LearntMoved}, heard{1, 2, port(1), 4, api.LearntHeld},
		heard{1, 2, port(1), 5, api.LearntNew}, heard{1, 2, port(2), 9, api.LearntHeld}, heard{1, 2, port(2), 10, api.LearntNew})
}

// P11.2: ahead of a further one all go that are old at now, where there is room and where there is none.
func TestLearnBesideOld(t *testing.T) {
	for _, room := range []int{3, 4} {
		k := table(t, api.Keep{Room: room, Life: 5, Moves: 1, Window: 10})
		fix(t, k, 1, 6, port(1))
		learn(t, k, heard{1, 2, port(1), 0, api.LearntNew}, heard{2, 2, port(1), 1, api.LearntNew}, heard{1, 4, port(1), 5, api.LearntNew})
		has(t, k, at(1, 4, port(1), 5), fixed(1, 6, port(1)), at(2, 2, port(1), 1))
		learn(t, k, heard{3, 2, port(1), 10, api.LearntNew})
		has(t, k, fixed(1, 6, port(1)), at(3, 2, port(1), 10))
	}
}

// P11.2: in a full table where none is old the one with the least time goes, of these the one of the least VLAN, and then of the least address.
func TestLearnFull(t *testing.T) {
	k := table(t, keep(1))
	fix(t, k, 1, 2, port(1))
	learn(t, k, heard{2, 2, port(1), 7, api.LearntNew}, heard{1, 6, port(1), 7, api.LearntNew}, heard{1, 4, port(1), 8, api.LearntNew})
	learn(t, k, heard{3, 2, port(1), 9, api.LearntNew})
	has(t, k, fixed(1, 2, port(1)), at(1, 4, port(1), 8), at(2, 2, port(1), 7), at(3, 2, port(1), 9))
	learn(t, k, heard{3, 4, port(1), 9, api.LearntNew}, heard{1, 4, port(2), 10, api.LearntMoved}, heard{3, 6, port(1), 10, api.LearntNew})
	has(t, k, fixed(1, 2, port(1)), at(1, 4, port(2), 10), at(3, 4, port(1), 9), at(3, 6, port(1), 10))
}

// P11.2, P11.3: in a table full of fixed ones nothing is learnt and nothing further fixed; one that is there is fixed anew.
func TestFull(t *testing.T) {
	k := table(t, api.Keep{Room: 2, Life: 5, Moves: 1, Window: 10})
	learn(t, k, heard{1, 6, port(1), 0, api.LearntNew}, heard{1, 6, port(2), 1, api.LearntMoved})
	fix(t, k, 1, 2, port(1))
	fix(t, k, 1, 4, port(1))
	for _, now := range []int{0, 2, lastTime} {
		stays(t, k, 2, "full", func() {
			learn(t, k, heard{1, 6, port(1), now, api.LearntNone}, heard{2, 2, port(1), now, api.LearntNone})
			if k.Fix(1, 6, port(1)) || k.Fix(2, 2, port(1)) {
				t.Error("fixed")
			}
		})
	}
	fix(t, k, 1, 2, peer(9))
	has(t, k, fixed(1, 2, peer(9)), fixed(1, 4, port(1)))
	k.Forget(1, 2)
	learn(t, k, heard{1, 6, port(1), 2, api.LearntNew}, heard{1, 6, port(2), 2, api.LearntHeld})
}

// P11.3: Find is the target till the place is old; it takes none out.
func TestFind(t *testing.T) {
	k := table(t, keep(1))
	learn(t, k, heard{1, 2, port(1), 10, api.LearntNew}, heard{2, 2, peer(7), 10, api.LearntNew})
	fix(t, k, 1, 4, port(3))
	for _, x := range []struct {
		vid  int
		mac  uint64
		now  int
		want api.Target
		is   bool
	}{
		{1, 2, 0, port(1), true}, {1, 2, 9, port(1), true}, {1, 2, 10, port(1), true}, {1, 2, 109, port(1), true},
		{1, 2, 110, api.Target{}, false}, {1, 2, 111, api.Target{}, false}, {1, 2, lastTime, api.Target{}, false}, {1, 2, 109, port(1), true},
		{2, 2, 109, peer(7), true}, {2, 2, 110, api.Target{}, false},
		{1, 4, 0, port(3), true}, {1, 4, 110, port(3), true}, {1, 4, lastTime, port(3), true},
		{2, 4, 10, api.Target{}, false}, {3, 2, 10, api.Target{}, false}, {1, 6, 10, api.Target{}, false}, {1, 1, 10, api.Target{}, false},
	} {
		if got, is := k.Find(x.vid, x.mac, x.now); got != x.want || is != x.is {
			t.Errorf("Find(%d, %d, %d): %+v, %v, want %+v, %v", x.vid, x.mac, x.now, got, is, x.want, x.is)
		}
		has(t, k, at(1, 2, port(1), 10), fixed(1, 4, port(3)), at(2, 2, peer(7), 10))
	}
}

// P11.3: Fix lets a place stand for good, where there was one, fixed or not, and where there was none.
func TestFix(t *testing.T) {
	k := table(t, keep(0))
	learn(t, k, heard{1, 2, port(1), 10, api.LearntNew})
	fix(t, k, 1, 2, port(1))
	has(t, k, fixed(1, 2, port(1)))
	fix(t, k, 1, 2, peer(2))
	fix(t, k, 2, 2, port(2))
	has(t, k, fixed(1, 2, peer(2)), fixed(2, 2, port(2)))
	if k.Expire(lastTime) != 0 || k.Flush(peer(2)) != 0 {
		t.Error("it went")
	}
	if to, is := k.Find(1, 2, lastTime); to != peer(2) || !is {
		t.Error(to, is)
	}
}

// P11.3: that an address is fixed elsewhere is no move.
func TestFixIsNoMove(t *testing.T) {
	k := table(t, keep(1))
	learn(t, k, heard{1, 2, port(1), 0, api.LearntNew})
	fix(t, k, 1, 2, port(2))
	fix(t, k, 1, 2, port(3))
	k.Forget(1, 2)
	learn(t, k, heard{1, 2, port(1), 0, api.LearntNew}, heard{1, 2, port(2), 0, api.LearntMoved}, heard{1, 2, port(1), 0, api.LearntHeld})
}

// P11.3: in a full table one that is not fixed goes for one that is fixed: the one with the least time, old or not, and no other.
func TestFixFull(t *testing.T) {
	k := table(t, keep(1))
	learn(t, k, heard{1, 2, port(1), lastTime, api.LearntNew})
	learn(t, k, heard{1, 4, port(1), 3, api.LearntNew}, heard{1, 6, port(1), 2, api.LearntNew}, heard{2, 2, port(1), 2, api.LearntNew})
	for _, x := range []struct {
		mac  uint64
		want []api.Place
	}{
		{2, []api.Place{at(1, 2, port(1), lastTime), at(1, 4, port(1), 3), at(2, 2, port(1), 2), fixed(3, 2, port(1))}},
		{4, []api.Place{at(1, 2, port(1), lastTime), at(1, 4, port(1), 3), fixed(3, 2, port(1)), fixed(3, 4, port(1))}},
		{6, []api.Place{at(1, 2, port(1), lastTime), fixed(3, 2, port(1)), fixed(3, 4, port(1)), fixed(3, 6, port(1))}},
		{8, []api.Place{fixed(3, 2, port(1)), fixed(3, 4, port(1)), fixed(3, 6, port(1)), fixed(3, 8, port(1))}},
	} {
		fix(t, k, 3, x.mac, port(1))
		has(t, k, x.want...)
	}
	stays(t, k, 3, "full", func() {
		if k.Fix(3, 10, port(1)) {
			t.Error("there was no room")
		}
	})
}

// P11.3: Forget takes one out, fixed, old or not, and tells it; of none it tells no.
func TestForget(t *testing.T) {
	k := table(t, keep(1))
	learn(t, k, heard{1, 2, port(1), lastTime, api.LearntNew}, heard{2, 2, port(1), 0, api.LearntNew})
	fix(t, k, 1, 4, port(1))
	for _, x := range []struct {
		vid  int
		mac  uint64
		is   bool
		want []api.Place
	}{
		{3, 2, false, []api.Place{at(1, 2, port(1), lastTime), fixed(1, 4, port(1)), at(2, 2, port(1), 0)}},
		{2, 4, false, []api.Place{at(1, 2, port(1), lastTime), fixed(1, 4, port(1)), at(2, 2, port(1), 0)}},
		{1, 4, true, []api.Place{at(1, 2, port(1), lastTime), at(2, 2, port(1), 0)}},
		{1, 4, false, []api.Place{at(1, 2, port(1), lastTime), at(2, 2, port(1), 0)}},
		{1, 2, true, []api.Place{at(2, 2, port(1), 0)}},
		{1, 2, false, []api.Place{at(2, 2, port(1), 0)}},
		{2, 2, true, nil},
	} {
		if is := k.Forget(x.vid, x.mac); is != x.is {
			t.Errorf("Forget(%d, %d): %v, want %v", x.vid, x.mac, is, x.is)
		}
		has(t, k, x.want...)
	}
}

// P11.3: Flush takes out all at a target, in each VLAN, old or not, but for what is fixed.
func TestFlush(t *testing.T) {
	k := table(t, api.Keep{Room: 9, Life: 5, Moves: 1, Window: 10})
	learn(t, k, heard{1, 2, port(1), lastTime, api.LearntNew})
	learn(t, k, heard{2, 2, port(1), 0, api.LearntNew}, heard{1, 4, port(2), 0, api.LearntNew}, heard{1, 6, peer(1), 0, api.LearntNew})
	fix(t, k, 3, 2, port(1))
	fix(t, k, 3, 4, peer(1))
	for _, x := range []struct {
		to   api.Target
		n    int
		want []api.Place
	}{
		{port(3), 0, []api.Place{at(1, 2, port(1), lastTime), at(1, 4, port(2), 0), at(1, 6, peer(1), 0), at(2, 2, port(1), 0), fixed(3, 2, port(1)), fixed(3, 4, peer(1))}},
		{port(1), 2, []api.Place{at(1, 4, port(2), 0), at(1, 6, peer(1), 0), fixed(3, 2, port(1)), fixed(3, 4, peer(1))}},
		{port(1), 0, []api.Place{at(1, 4, port(2), 0), at(1, 6, peer(1), 0), fixed(3, 2, port(1)), fixed(3, 4, peer(1))}},
		{peer(1), 1, []api.Place{at(1, 4, port(2), 0), fixed(3, 2, port(1)), fixed(3, 4, peer(1))}},
		{port(2), 1, []api.Place{fixed(3, 2, port(1)), fixed(3, 4, peer(1))}},
	} {
		if n := k.Flush(x.to); n != x.n {
			t.Errorf("Flush(%+v): %d, want %d", x.to, n, x.n)
		}
		has(t, k, x.want...)
	}
}

// P11.3: Expire takes out what is old, and none that is fixed.
func TestExpire(t *testing.T) {
	k := table(t, api.Keep{Room: 9, Life: 5, Moves: 1, Window: 10})
	learn(t, k, heard{2, 2, port(1), 2, api.LearntNew}, heard{1, 2, peer(1), 1, api.LearntNew}, heard{1, 4, port(1), 4, api.LearntNew})
	fix(t, k, 1, 6, port(1))
	for _, x := range []struct {
		now, n int
		want   []api.Place
	}{
		{0, 0, []api.Place{at(1, 2, peer(1), 1), at(1, 4, port(1), 4), fixed(1, 6, port(1)), at(2, 2, port(1), 2)}},
		{5, 0, []api.Place{at(1, 2, peer(1), 1), at(1, 4, port(1), 4), fixed(1, 6, port(1)), at(2, 2, port(1), 2)}},
		{6, 1, []api.Place{at(1, 4, port(1), 4), fixed(1, 6, port(1)), at(2, 2, port(1), 2)}},
		{lastTime, 2, []api.Place{fixed(1, 6, port(1))}},
		{lastTime, 0, []api.Place{fixed(1, 6, port(1))}},
	} {
		if n := k.Expire(x.now); n != x.n {
			t.Errorf("Expire(%d): %d, want %d", x.now, n, x.n)
		}
		has(t, k, x.want...)
	}
}

// P11.2, P11.3: Expire leaves the moves that count at its time, and tells of places alone.
func TestExpireMoves(t *testing.T) {
	k := table(t, api.Keep{Room: 9, Life: 100, Moves: 2, Window: 10})
	learn(t, k, heard{1, 2, port(1), 0, api.LearntNew}, heard{1, 2, port(2), 1, api.LearntMoved}, heard{1, 2, port(1), 5, api.LearntMoved})
	for _, x := range []struct{ now, want int }{{0, api.LearntHeld}, {5, api.LearntHeld}, {10, api.LearntHeld}, {11, api.LearntMoved}} {
		if n := k.Expire(x.now); n != 0 {
			t.Errorf("Expire(%d): %d", x.now, n)
		}
		learn(t, k, heard{1, 2, port(2), max(5, x.now), x.want})
	}
	learn(t, k, heard{1, 2, port(1), 14, api.LearntHeld}, heard{1, 2, port(1), 15, api.LearntMoved})
}

// P11.3: Places go by rising VLANs, of these by rising addresses, in whatever order they came; what is old is told, too.
func TestPlaces(t *testing.T) {
	want := []api.Place{
		at(1, 1, port(1), 0), at(1, 2, port(64), 7), at(1, lastOwn, peer(1), 3), fixed(2, 1, peer(math.MaxUint32)),
		at(2, 2, port(2), lastTime-1), at(256, 4, port(3), 9), fixed(4094, 1, port(1)), at(4094, lastOwn, peer(0x0a000001), 1),
	}
	for turn := range want {
		k := table(t, api.Keep{Room: len(want), Life: lastTime, Window: 1})
		for i := range want {
			p := want[(3*i+turn)%len(want)]
			if p.Fixed {
				fix(t, k, p.Vid, p.Mac, p.To)
				continue
			}
			// its time is told by what is heard again, so that no earlier one goes as an old one
			learn(t, k, heard{p.Vid, p.Mac, p.To, 0, api.LearntNew}, heard{p.Vid, p.Mac, p.To, p.At, api.LearntSame})
		}
		has(t, k, want...)
	}
}

// P11.3: what Places answers is its asker's, spare room too.
func TestPlacesNew(t *testing.T) {
	k := table(t, keep(1))
	learn(t, k, heard{1, 2, port(1), 1, api.LearntNew}, heard{1, 4, port(2), 2, api.LearntNew})
	a, b := k.Places(), k.Places()
	for i := range a {
		a[i] = fixed(9, 9, port(9))
	}
	for range 5 {
		a = append(a, fixed(9, 9, port(9)))
	}
	learn(t, k, heard{1, 6, port(3), 3, api.LearntNew})
	has(t, k, at(1, 2, port(1), 1), at(1, 4, port(2), 2), at(1, 6, port(3), 3))
	if !slices.Equal(b, []api.Place{at(1, 2, port(1), 1), at(1, 4, port(2), 2)}) {
		t.Errorf("%+v", b)
	}
}

// P11.3: a copy has the same places and moves, and goes its own way; so does its original.
func TestCopy(t *testing.T) {
	changes := []func(k *fdb.Table){
		func(k *fdb.Table) { k.Learn(1, 2, port(1), 5) },
		func(k *fdb.Table) { k.Learn(1, 2, port(2), 5) },
		func(k *fdb.Table) { k.Learn(1, 4, port(2), 5); k.Learn(1, 4, port(1), 5) },
		func(k *fdb.Table) { k.Learn(2, 2, port(1), 5) },
		func(k *fdb.Table) { k.Fix(1, 2, port(2)) },
		func(k *fdb.Table) { k.Fix(2, 2, port(2)) },
		func(k *fdb.Table) { k.Forget(1, 6) },
		func(k *fdb.Table) { k.Flush(port(1)) },
		func(k *fdb.Table) { k.Expire(lastTime) },
	}
	for i, change := range changes {
		for _, own := range []bool{false, true} {
			k := table(t, keep(2))
			learn(t, k, heard{1, 2, port(1), 1, api.LearntNew}, heard{1, 4, port(2), 1, api.LearntNew}, heard{1, 4, port(1), 1, api.LearntMoved})
			fix(t, k, 1, 6, port(1))
			a, b := k, k.Copy()
			if own {
				a, b = b, a
			}
			places, answers := b.Places(), next(b, 5)
			if !slices.Equal(a.Places(), places) || !slices.Equal(next(a, 5), answers) {
				t.Errorf("change %d: the copy is another one", i)
			}
			change(a)
			if !slices.Equal(b.Places(), places) || !slices.Equal(next(b, 5), answers) {
				t.Errorf("change %d of one changed the other", i)
			}
			if slices.Equal(a.Places(), places) && slices.Equal(next(a, 5), answers) {
				t.Errorf("change %d made none", i)
			}
			change(b)
			if !slices.Equal(a.Places(), b.Places()) || !slices.Equal(next(a, 5), next(b, 5)) {
				t.Errorf("change %d is another one to the copy", i)
			}
		}
	}
}

// P11.3: a copy has its original's room, life, moves and window.
func TestCopyBounds(t *testing.T) {
	c := table(t, api.Keep{Room: 2, Life: 50, Moves: 1, Window: 10}).Copy()
	learn(t, c,
		heard{1, 2, port(1), 0, api.LearntNew}, heard{1, 2, port(2), 0, api.LearntMoved}, heard{1, 2, port(1), 9, api.LearntHeld}, heard{1, 2, port(1), 10, api.LearntMoved},
		heard{1, 4, port(1), 11, api.LearntNew}, heard{1, 6, port(1), 12, api.LearntNew})
	has(t, c, at(1, 4, port(1), 11), at(1, 6, port(1), 12))
	if n := c.Expire(60); n != 0 {
		t.Error(n)
	}
	if n := c.Expire(61); n != 1 {
		t.Error(n)
	}
}

// P11.4: an address is at one place in a VLAN, whatever it is in others.
func TestVlansApart(t *testing.T) {
	k := table(t, keep(1))
	learn(t, k, heard{1, 2, port(1), 0, api.LearntNew}, heard{2, 2, port(2), 0, api.LearntNew}, heard{3, 2, peer(1), 0, api.LearntNew})
	learn(t, k, heard{2, 2, port(3), 1, api.LearntMoved})
	has(t, k, at(1, 2, port(1), 0), at(2, 2, port(3), 1), at(3, 2, peer(1), 0))
	fix(t, k, 1, 2, port(4))
	k.Forget(3, 2)
	has(t, k, fixed(1, 2, port(4)), at(2, 2, port(3), 1))
	if _, is := k.Find(3, 2, 1); is {
		t.Error("it is there")
	}
}
