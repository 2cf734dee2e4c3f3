package fdb

import (
	"math"
	"slices"
	"testing"

	"gangway/api"
)

// source answers numbers, the same ones in each run.
func source() func() uint64 {
	x := uint64(88172645463325252)
	return func() uint64 {
		x ^= x << 13
		x ^= x >> 7
		x ^= x << 17
		return x
	}
}

// P11.2: a move counts at the times that are less than the window behind it, and at all that are earlier.
func TestCounts(t *testing.T) {
	for _, x := range []struct {
		at, now, window int
		want            bool
	}{
		{10, 10, 1, true}, {10, 11, 1, false}, {10, 9, 1, true}, {10, 0, 1, true},
		{10, 14, 5, true}, {10, 15, 5, false}, {10, 16, 5, false},
		{0, lastTime - 1, lastTime, true}, {0, lastTime, lastTime, false}, {1, lastTime, lastTime, true}, {lastTime, 0, 1, true},
	} {
		if got := counts(x.at, x.now, x.window); got != x.want {
			t.Errorf("counts(%d, %d, %d): %v", x.at, x.now, x.window, got)
		}
	}
}

// P11.2: of a key's moves the latest ones are kept, as many as may be asked for, whatever order they come in.
func TestAdd(t *testing.T) {
	m := moves{}
	for _, x := range []struct {
		key  uint64
		now  int
		want []int
	}{
		{1, 7, []int{7}}, {1, 3, []int{3, 7}}, {1, 7, []int{3, 7, 7}}, {1, 5, []int{5, 7, 7}}, {1, 9, []int{7, 7, 9}},
		{2, 1, []int{1}}, {1, 1, []int{7, 7, 9}}, {1, 8, []int{7, 8, 9}},
	} {
		m.add(x.key, x.now, 3)
		if !slices.Equal(m[x.key], x.want) {
			t.Errorf("key %d, %d: %v, want %v", x.key, x.now, m[x.key], x.want)
		}
	}
	if !slices.Equal(m[2], []int{1}) {
		t.Error(m)
	}
}

// P11.2, P11.4: with the latest ones alone it is told at each time whether as many as may be asked for count.
func TestLatestAreEnough(t *testing.T) {
	next := source()
	for most := 1; most <= 4; most++ {
		m, all := moves{}, []int{}
		for range 200 {
			now := int(next() >> 20 % 40)
			m.add(1, now, most)
			all = append(all, now)
			for at := range 50 {
				n := 0
				for _, a := range all {
					if at-a < 5 {
						n++
					}
				}
				if got := m.counting(1, at, 5); got >= most != (n >= most) {
					t.Fatalf("at %d, most %d: %d of %v", at, most, got, all)
				}
			}
			if len(m[1]) > most {
				t.Fatalf("kept: %v", m[1])
			}
		}
	}
}

// P11.2: those that count stay, of each key; no key is left with an empty list.
func TestExpireMoves(t *testing.T) {
	m := moves{1: {1, 5, 9}, 2: {2}, 3: {9}}
	for _, x := range []struct {
		now  int
		want moves
	}{
		{0, moves{1: {1, 5, 9}, 2: {2}, 3: {9}}},
		{4, moves{1: {1, 5, 9}, 2: {2}, 3: {9}}},
		{5, moves{1: {5, 9}, 2: {2}, 3: {9}}},
		{6, moves{1: {5, 9}, 3: {9}}},
		{3, moves{1: {5, 9}, 3: {9}}},
		{12, moves{1: {9}, 3: {9}}},
		{13, moves{}},
		{lastTime, moves{}},
	} {
		m.expire(x.now, 4)
		if len(m) != len(x.want) {
			t.Errorf("at %d: %v, want %v", x.now, m, x.want)
		}
		for key, l := range x.want {
			if !slices.Equal(m[key], l) {
				t.Errorf("at %d: %v, want %v", x.now, m, x.want)
			}
		}
	}
}

// P11.3: a copy's lists are its own, spare room too.
func TestCopiedMoves(t *testing.T) {
	m := moves{}
	m.add(1, 3, 9)
	m.add(1, 4, 9)
	m.add(1, 5, 9)
	c := m.copied()
	m.add(1, 6, 9)
	c.add(1, 2, 9)
	c.add(2, 2, 9)
	if !slices.Equal(m[1], []int{3, 4, 5, 6}) || !slices.Equal(c[1], []int{2, 3, 4, 5}) || len(m) != 1 || len(c) != 2 {
		t.Error(m, c)
	}
	m.expire(math.MaxInt32, 1)
	if len(m) != 0 || len(c) != 2 {
		t.Error(m, c)
	}
}

// P11.4: in no window an address moves more often than Moves, in whatever order the times come.
func TestMovesAtAnyTimes(t *testing.T) {
	next := source()
	for most := range 4 {
		k, e := New(api.Keep{Room: 1, Life: lastTime, Moves: most, Window: 5})
		if e != api.OK {
			t.Fatal(e)
		}
		moved := [64]int{} // by times
		for range 2000 {
			now := int(next() >> 20 % 60)
			if k.Learn(1, 2, api.Target{N: 1 + uint32(next()>>20%3)}, now) == api.LearntMoved {
				moved[now]++
			}
		}
		for from := range 60 {
			if n := moved[from] + moved[from+1] + moved[from+2] + moved[from+3] + moved[from+4]; n > most {
				t.Errorf("%d moves from %d on, Moves is %d", n, from, most)
			}
		}
	}
}

// P11.3: with what is old at a time go the moves that do not count at it; at what is no time none goes.
func TestExpireLetsMovesGo(t *testing.T) {
	k, e := New(api.Keep{Room: 1, Life: 100, Moves: 2, Window: 5})
	if e != api.OK {
		t.Fatal(e)
	}
	for now := range 3 {
		k.Learn(1, 2, api.Target{N: 1 + uint32(now)}, now)
	}
	for _, x := range []struct {
		now  int
		left []int
	}{{5, []int{1, 2}}, {-1, []int{1, 2}}, {lastTime + 1, []int{1, 2}}, {6, []int{2}}, {math.MaxInt, []int{2}}, {7, nil}} {
		if n := k.Expire(x.now); n != 0 {
			t.Errorf("Expire(%d): %d", x.now, n)
		}
		if l, is := k.moves[keyOf(1, 2)]; !slices.Equal(l, x.left) || is != (x.left != nil) {
			t.Errorf("at %d: %v, want %v", x.now, k.moves, x.left)
		}
	}
}
