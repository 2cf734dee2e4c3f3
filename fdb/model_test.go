package fdb_test

import (
	"fmt"
	"slices"
	"testing"

	"gangway/api"
	"gangway/fdb"
)

// where is an address in a VLAN.
type where struct {
	vid int
	mac uint64
}

// model is a table as the chapter's words tell it, of addresses and targets that may be.
type model struct {
	c      api.Keep
	places []api.Place // in order
	moves  map[where][]int
}

// find is where in the list a place is.
func (m *model) find(w where) (int, bool) {
	return slices.BinarySearchFunc(m.places, w, func(p api.Place, w where) int {
		if p.Vid != w.vid {
			return p.Vid - w.vid
		}
		return int(p.Mac) - int(w.mac)
	})
}

func (m *model) old(p api.Place, now int) bool { return !p.Fixed && now >= p.At+m.c.Life }

// remove takes out those, and tells how many.
func (m *model) remove(those func(p api.Place) bool) int {
	before := len(m.places)
	m.places = slices.DeleteFunc(m.places, those)
	return before - len(m.places)
}

// further lets there be one more, if there is room or can be made.
func (m *model) further(p api.Place) bool {
	if len(m.places) == m.c.Room {
		goes := -1
		for i, x := range m.places {
			if !x.Fixed && (goes < 0 || x.At < m.places[goes].At) {
				goes = i
			}
		}
		if goes < 0 {
			return false
		}
		m.places = slices.Delete(m.places, goes, goes+1)
	}
	i, _ := m.find(where{p.Vid, p.Mac})
	m.places = slices.Insert(m.places, i, p)
	return true
}

// counting is how many moves of an address count.
func (m *model) counting(w where, now int) int {
	n := 0
	for _, at := range m.moves[w] {
		if now-at < m.c.Window {
			n++
		}
	}
	return n
}

func (m *model) learn(w where, to api.Target, now int) int {
	p := at(w.vid, w.mac, to, now)
	i, is := m.find(w)
	switch {
	case is && m.places[i].Fixed:
		return api.LearntNone
	case is && m.old(m.places[i], now):
		m.places[i] = p
		return api.LearntNew
	case is && m.places[i].To == to:
		m.places[i] = p
		return api.LearntSame
	case is && m.counting(w, now) >= m.c.Moves:
		return api.LearntHeld
	case is:
		m.places[i] = p
		m.moves[w] = append(m.moves[w], now)
		return api.LearntMoved
	}
	m.remove(func(p api.Place) bool { return m.old(p, now) })
	if !m.further(p) {
		return api.LearntNone
	}
	return api.LearntNew
}

func (m *model) fix(w where, to api.Target) bool {
	p := fixed(w.vid, w.mac, to)
	if i, is := m.find(w); is {
		m.places[i] = p
		return true
	}
	return m.further(p)
}

func (m *model) look(w where, now int) (api.Target, bool) {
	i, is := m.find(w)
	if !is || m.old(m.places[i], now) {
		return api.Target{}, false
	}
	return m.places[i].To, true
}

// step does one thing to both, told by a number, and tells both answers as texts.
func step(k *fdb.Table, m *model, x uint64, now int) (string, string) {
	w := where{1 + int(x>>8%3), 2 * (1 + x>>16%3)}
	to := api.Target{Kind: int(x >> 24 % 2), N: 1 + uint32(x>>32%2)}
	switch x % 32 {
	case 0:
		return fmt.Sprint("fix ", k.Fix(w.vid, w.mac, to)), fmt.Sprint("fix ", m.fix(w, to))
	case 1, 2, 3:
		return fmt.Sprint("forget ", k.Forget(w.vid, w.mac)), fmt.Sprint("forget ", m.remove(func(p api.Place) bool { return where{p.Vid, p.Mac} == w }) == 1)
	case 4:
		return fmt.Sprint("flush ", k.Flush(to)), fmt.Sprint("flush ", m.remove(func(p api.Place) bool { return !p.Fixed && p.To == to }))
	case 5:
		return fmt.Sprint("expire ", k.Expire(now)), fmt.Sprint("expire ", m.remove(func(p api.Place) bool { return m.old(p, now) }))
	case 6, 7:
		a, is := k.Find(w.vid, w.mac, now)
		b, be := m.look(w, now)
		return fmt.Sprint("find ", a, is), fmt.Sprint("find ", b, be)
	}
	return fmt.Sprint("learn ", k.Learn(w.vid, w.mac, to, now)), fmt.Sprint("learn ", m.learn(w, to, now))
}

// P11.2 to P11.4: whatever is done as time passes, the table is as the chapter says.
func TestAny(t *testing.T) {
	next := source()
	said := map[string]int{}
	for range 400 {
		c := api.Keep{Room: 1 + int(next()>>20%8), Life: 1 + int(next()>>20%20), Moves: int(next() >> 20 % 4), Window: 1 + int(next()>>20%20)}
		k, m := table(t, c), &model{c: c, moves: map[where][]int{}}
		now := []int{0, 1000, lastTime - 300}[next()>>20%3]
		for range 200 {
			now += int(next() >> 20 % 5 / 3)
			got, want := step(k, m, next()>>10, now)
			said[want]++
			if got != want {
				t.Fatalf("at %d of %+v: %s, want %s", now, c, got, want)
			}
			if got := k.Places(); !slices.Equal(got, m.places) || len(got) > c.Room {
				t.Fatalf("%s at %d of %+v: it has %+v, want %+v", want, now, c, got, m.places)
			}
			if next()>>20%16 == 0 { // a copy goes on where its original was
				k = k.Copy()
			}
		}
	}
	for _, s := range []string{"learn 0", "learn 1", "learn 2", "learn 3", "learn 4", "fix true", "fix false", "forget true", "forget false", "flush 2", "expire 0", "expire 3", "find {0 0} false"} {
		if said[s] == 0 {
			t.Errorf("never tried: %s", s)
		}
	}
}

// P11.4: in a window an address moves no more often than Moves, whatever is heard of it, and whatever becomes of its place; as often it does.
func TestMovesInWindow(t *testing.T) {
	next := source()
	for moves := 0; moves <= 5; moves++ {
		k := table(t, api.Keep{Room: 2, Life: 30, Moves: moves, Window: 20})
		var moved []int
		most := 0
		for now := range 2000 {
			if next()>>20%64 == 0 {
				k.Forget(1, 2)
			}
			if k.Learn(1, 2, port(1+uint32(next()>>20%3)), now) == api.LearntMoved {
				moved = append(moved, now)
			}
			in := 0
			for _, at := range moved {
				if now-at < 20 {
					in++
				}
			}
			most = max(most, in)
		}
		if most != moves {
			t.Errorf("%d moves in a window, Moves is %d", most, moves)
		}
	}
}
