package ages_test

import (
	"fmt"
	"math"
	"slices"
	"testing"

	"gangway/ages"
	"gangway/api"
)

const (
	lastTime = 1 << 40
	lastKey  = math.MaxUint64
)

// noTimes are numbers that are no time.
func noTimes() []int { return []int{-1, lastTime + 1, math.MinInt, math.MaxInt} }

// table is an empty one.
func table(t *testing.T, room, life int) *ages.Table {
	t.Helper()
	k, e := ages.New(room, life)
	if k == nil || e != api.OK {
		t.Fatalf("New(%d, %d): %v, %v", room, life, k, e)
	}
	return k
}

// put puts, where nothing is wrong.
func put(t *testing.T, k *ages.Table, key, value uint64, now int) {
	t.Helper()
	if e := k.Put(key, value, now); e != api.OK {
		t.Fatalf("Put(%d, %d, %d): %v", key, value, now, e)
	}
}

// fix fixes, where nothing is wrong.
func fix(t *testing.T, k *ages.Table, key, value uint64) {
	t.Helper()
	if e := k.Fix(key, value); e != api.OK {
		t.Fatalf("Fix(%d, %d): %v", key, value, e)
	}
}

// has holds a table's entries against those that it should have.
func has(t *testing.T, k *ages.Table, want ...api.Entry) {
	t.Helper()
	if got := k.Entries(); !slices.Equal(got, want) {
		t.Errorf("it has %+v, want %+v", got, want)
	}
}

// at is an entry that is not fixed.
func at(key, value uint64, now int) api.Entry { return api.Entry{Key: key, Value: value, At: now} }

// fixed is one that is.
func fixed(key, value uint64) api.Entry { return api.Entry{Key: key, Value: value, Fixed: true} }

// source answers numbers, the same ones in each run.
func source() func() uint64 {
	x := uint64(88172645463325252)
	return func() uint64 {
		x ^= x << 13
		x ^= x >> 7
		x ^= x << 17
		return x
	}
}

// P10.1: room is 1 to 4096, life 1 to 2^40.
func TestNew(t *testing.T) {
	for _, x := range []struct {
		room, life int
		want       api.Errno
	}{
		{1, 1, api.OK}, {2, 5, api.OK}, {4096, 1, api.OK}, {1, lastTime, api.OK}, {4096, lastTime, api.OK},
		{0, 1, api.ErrArg}, {-1, 1, api.ErrArg}, {4097, 1, api.ErrArg}, {math.MinInt, 1, api.ErrArg}, {math.MaxInt, 1, api.ErrArg},
		{1, 0, api.ErrArg}, {1, -1, api.ErrArg}, {1, lastTime + 1, api.ErrArg}, {1, math.MinInt, api.ErrArg}, {1, math.MaxInt, api.ErrArg},
		{0, 0, api.ErrArg}, {4097, lastTime + 1, api.ErrArg},
	} {
		k, e := ages.New(x.room, x.life)
		if e != x.want || (k == nil) != (e != api.OK) {
			t.Errorf("New(%d, %d): %v, %v, want %v", x.room, x.life, k, e, x.want)
		}
		if k != nil {
			has(t, k)
		}
	}
}

// P10.1: two tables have nothing in common.
func TestNewAgain(t *testing.T) {
	a, b := table(t, 2, 5), table(t, 2, 5)
	put(t, a, 1, 9, 0)
	has(t, a, at(1, 9, 0))
	has(t, b)
}

// P10.2: the chapter's example.
func TestExample(t *testing.T) {
	k := table(t, 2, 5)
	put(t, k, 1, 9, 0)
	put(t, k, 2, 9, 1)
	put(t, k, 3, 9, 2)
	has(t, k, at(2, 9, 1), at(3, 9, 2))
}

// P10.2: now is a time.
func TestPutTimes(t *testing.T) {
	for _, now := range []int{0, 1, lastTime - 1, lastTime} {
		k := table(t, 2, 5)
		put(t, k, 1, 9, now)
		has(t, k, at(1, 9, now))
	}
}

// P10.2: what is no time is ErrArg, also where the key is fixed, where it has an entry, where there are old ones, and where all is full; nothing changes.
func TestPutNoTime(t *testing.T) {
	for _, now := range noTimes() {
		k := table(t, 2, 5)
		for _, want := range [][]api.Entry{nil, {fixed(1, 9)}, {fixed(1, 9), at(2, 8, 0)}, {fixed(1, 9), fixed(2, 8)}} {
			for _, w := range want {
				if w.Fixed {
					fix(t, k, w.Key, w.Value)
				} else {
					put(t, k, w.Key, w.Value, w.At)
				}
			}
			for key := uint64(1); key <= 3; key++ {
				if e := k.Put(key, 7, now); e != api.ErrArg {
					t.Errorf("Put(%d, 7, %d): %v, want %v", key, now, e, api.ErrArg)
				}
				has(t, k, want...)
			}
		}
	}
}

// P10.2: a key that is fixed is not put, be there room or not; old ones stay, too.
func TestPutFixed(t *testing.T) {
	k := table(t, 3, 5)
	fix(t, k, 2, 9)
	put(t, k, 1, 8, 0)
	refused := func(want ...api.Entry) {
		t.Helper()
		for _, now := range []int{0, 5, lastTime} {
			for _, value := range []uint64{9, 7} {
				if e := k.Put(2, value, now); e != api.ErrAgesFixed {
					t.Errorf("Put(2, %d, %d): %v, want %v", value, now, e, api.ErrAgesFixed)
				}
				has(t, k, want...)
			}
		}
	}
	refused(at(1, 8, 0), fixed(2, 9))
	fix(t, k, 1, 8)
	fix(t, k, 3, 7)
	refused(fixed(1, 8), fixed(2, 9), fixed(3, 7))
}

// P10.2: a key that has an entry, old or not, gets the value and the time, later or earlier; no other one goes, old or not.
func TestPutAgain(t *testing.T) {
	k := table(t, 3, 5)
	put(t, k, 1, 1, 0)
	put(t, k, 2, 2, 1)
	put(t, k, 3, 3, 2)
	for _, x := range []struct {
		key, value uint64
		now        int
		want       []api.Entry
	}{
		{2, 2, 4, []api.Entry{at(1, 1, 0), at(2, 2, 4), at(3, 3, 2)}},
		{2, 7, 4, []api.Entry{at(1, 1, 0), at(2, 7, 4), at(3, 3, 2)}},
		{2, 7, 1, []api.Entry{at(1, 1, 0), at(2, 7, 1), at(3, 3, 2)}},
		{1, 8, 5, []api.Entry{at(1, 8, 5), at(2, 7, 1), at(3, 3, 2)}},
		{3, 9, lastTime, []api.Entry{at(1, 8, 5), at(2, 7, 1), at(3, 9, lastTime)}},
		{3, 0, 0, []api.Entry{at(1, 8, 5), at(2, 7, 1), at(3, 0, 0)}},
	} {
		put(t, k, x.key, x.value, x.now)
		has(t, k, x.want...)
	}
}

// P10.2: ahead of a further one all that are old at now go, be there room or not: those whose At and life is now or less, and none that is fixed.
func TestPutBesideOld(t *testing.T) {
	for _, room := range []int{4, 5, 4096} {
		for _, x := range []struct {
			now  int
			want []api.Entry
		}{
			{5, []api.Entry{at(1, 1, 3), fixed(2, 2), at(3, 3, 1), at(4, 4, 2)}},
			{6, []api.Entry{at(1, 1, 3), fixed(2, 2), at(4, 4, 2)}},
			{7, []api.Entry{at(1, 1, 3), fixed(2, 2)}},
			{8, []api.Entry{fixed(2, 2)}},
			{lastTime, []api.Entry{fixed(2, 2)}},
		} {
			k := table(t, room, 5)
			put(t, k, 1, 1, 3)
			put(t, k, 4, 4, 2)
			put(t, k, 3, 3, 1)
			fix(t, k, 2, 2)
			want := append(slices.Clone(x.want), at(9, 9, x.now))
			if room == 4 && x.now == 5 { // none is old: the one that was put first goes
				want = slices.DeleteFunc(want, func(e api.Entry) bool { return e.Key == 3 })
			}
			put(t, k, 9, 9, x.now)
			has(t, k, want...)
		}
	}
}

// P10.2: in a full table the one with the least At goes, of these the one with the least key; none that is fixed, though its At is 0.
func TestPutFull(t *testing.T) {
	for _, x := range []struct {
		name string
		ats  [4]int // -1: fixed
		now  int
		goes uint64 // the key that does
	}{
		{"the least At", [4]int{4, 3, 2, 3}, 4, 3},
		{"the least At, at the beginning", [4]int{1, 3, 2, 3}, 4, 1},
		{"the least At, at the end", [4]int{4, 3, 2, 1}, 4, 4},
		{"two of the least At", [4]int{4, 2, 3, 2}, 4, 2},
		{"all of one At", [4]int{2, 2, 2, 2}, 4, 1},
		{"fixed ones", [4]int{-1, 3, -1, 2}, 4, 4},
		{"fixed ones but for one", [4]int{-1, -1, 9, -1}, 4, 3},
		{"later than now", [4]int{9, 8, 7, 8}, 4, 3},
		{"put at 0", [4]int{1, 0, -1, 0}, 0, 2},
	} {
		k := table(t, 4, 5)
		var want []api.Entry
		for _, i := range []int{2, 0, 3, 1} { // keys in any order
			key := uint64(i + 1)
			e := at(key, 10+key, x.ats[i])
			if x.ats[i] < 0 {
				e = fixed(key, 10+key)
				fix(t, k, key, 10+key)
			} else {
				put(t, k, key, 10+key, x.ats[i])
			}
			if key != x.goes {
				want = append(want, e)
			}
		}
		want = append(want, at(9, 9, x.now))
		slices.SortFunc(want, func(a, b api.Entry) int { return int(a.Key) - int(b.Key) })
		put(t, k, 9, 9, x.now)
		if got := k.Entries(); !slices.Equal(got, want) {
			t.Errorf("%s: %+v, want %+v", x.name, got, want)
		}
	}
}

// P10.2: in a full table with an old one that goes, and no other.
func TestPutFullOld(t *testing.T) {
	k := table(t, 3, 5)
	put(t, k, 1, 1, 4)
	put(t, k, 2, 2, 0)
	put(t, k, 3, 3, 3)
	put(t, k, 4, 4, 5)
	has(t, k, at(1, 1, 4), at(3, 3, 3), at(4, 4, 5))
}

// P10.2, P10.3: in a table full of fixed ones there is no room; nothing changes; a key that is there may be fixed anew.
func TestFull(t *testing.T) {
	k := table(t, 2, 5)
	fix(t, k, 2, 2)
	fix(t, k, 4, 4)
	for _, key := range []uint64{0, 1, 3, 5, lastKey} {
		for _, now := range []int{0, 5, lastTime} {
			if e := k.Put(key, 9, now); e != api.ErrAgesFull {
				t.Errorf("Put(%d, 9, %d): %v, want %v", key, now, e, api.ErrAgesFull)
			}
		}
		if e := k.Fix(key, 9); e != api.ErrAgesFull {
			t.Errorf("Fix(%d, 9): %v, want %v", key, e, api.ErrAgesFull)
		}
		has(t, k, fixed(2, 2), fixed(4, 4))
	}
	fix(t, k, 2, 7)
	has(t, k, fixed(2, 7), fixed(4, 4))
}

// P10.3: a key that has an entry is fixed, with the value, whether it was or not; At is 0 then.
func TestFixAgain(t *testing.T) {
	k := table(t, 2, 5)
	put(t, k, 1, 1, 3)
	put(t, k, 2, 2, 4)
	fix(t, k, 1, 7)
	has(t, k, fixed(1, 7), at(2, 2, 4))
	fix(t, k, 1, 8)
	has(t, k, fixed(1, 8), at(2, 2, 4))
	fix(t, k, 2, 2)
	has(t, k, fixed(1, 8), fixed(2, 2))
}

// P10.3: where there is room none goes, old as it may be; where there is none one goes, as of Put, though more are old.
func TestFixFurther(t *testing.T) {
	k := table(t, 5, 1)
	put(t, k, 3, 3, lastTime-1)
	put(t, k, 5, 5, lastTime-1)
	fix(t, k, 6, 6)
	fix(t, k, 4, 4)
	has(t, k, at(3, 3, lastTime-1), fixed(4, 4), at(5, 5, lastTime-1), fixed(6, 6))
	put(t, k, 1, 1, 0)
	has(t, k, at(1, 1, 0), at(3, 3, lastTime-1), fixed(4, 4), at(5, 5, lastTime-1), fixed(6, 6))
	fix(t, k, 2, 2)
	has(t, k, fixed(2, 2), at(3, 3, lastTime-1), fixed(4, 4), at(5, 5, lastTime-1), fixed(6, 6))
	fix(t, k, 7, 7)
	has(t, k, fixed(2, 2), fixed(4, 4), at(5, 5, lastTime-1), fixed(6, 6), fixed(7, 7))
	fix(t, k, 8, 8)
	has(t, k, fixed(2, 2), fixed(4, 4), fixed(6, 6), fixed(7, 7), fixed(8, 8))
}

// P10.3: Fix has no time: what is old at the last one that was told stays beside it.
func TestFixBesideOld(t *testing.T) {
	k := table(t, 4, 5)
	put(t, k, 1, 1, 0)
	put(t, k, 2, 2, 1)
	put(t, k, 3, 3, 2)
	put(t, k, 3, 3, lastTime)
	if _, is := k.Get(1, lastTime); is {
		t.Error("it should be old")
	}
	fix(t, k, 3, 4)
	has(t, k, at(1, 1, 0), at(2, 2, 1), fixed(3, 4))
	fix(t, k, 4, 4)
	has(t, k, at(1, 1, 0), at(2, 2, 1), fixed(3, 4), fixed(4, 4))
	fix(t, k, 5, 5)
	has(t, k, at(2, 2, 1), fixed(3, 4), fixed(4, 4), fixed(5, 5))
}

// P10.3: with two of the same least At the one with the least key goes.
func TestFixFull(t *testing.T) {
	k := table(t, 4, 5)
	put(t, k, 4, 4, 1)
	put(t, k, 3, 3, 0)
	fix(t, k, 1, 1)
	put(t, k, 2, 2, 0)
	fix(t, k, 5, 5)
	has(t, k, fixed(1, 1), at(3, 3, 0), at(4, 4, 1), fixed(5, 5))
}

// P10.3: with room for one alone.
func TestFixOne(t *testing.T) {
	k := table(t, 1, 1)
	put(t, k, 1, 1, 0)
	put(t, k, 2, 2, 0)
	has(t, k, at(2, 2, 0))
	fix(t, k, 1, 1)
	has(t, k, fixed(1, 1))
	if e := k.Fix(2, 2); e != api.ErrAgesFull {
		t.Error(e)
	}
	has(t, k, fixed(1, 1))
}

// P10.4: Get is the entry till At and life less 1; it takes none out.
func TestGet(t *testing.T) {
	k := table(t, 3, 5)
	put(t, k, 1, 9, 10)
	fix(t, k, 2, 8)
	for _, x := range []struct {
		key  uint64
		now  int
		want api.Entry
		is   bool
	}{
		{1, 0, at(1, 9, 10), true}, {1, 9, at(1, 9, 10), true}, {1, 10, at(1, 9, 10), true}, {1, 14, at(1, 9, 10), true},
		{1, 15, api.Entry{}, false}, {1, 16, api.Entry{}, false}, {1, lastTime, api.Entry{}, false}, {1, 14, at(1, 9, 10), true},
		{2, 0, fixed(2, 8), true}, {2, 5, fixed(2, 8), true}, {2, lastTime, fixed(2, 8), true},
		{0, 10, api.Entry{}, false}, {3, 10, api.Entry{}, false}, {9, 10, api.Entry{}, false}, {lastKey, 10, api.Entry{}, false},
	} {
		if got, is := k.Get(x.key, x.now); got != x.want || is != x.is {
			t.Errorf("Get(%d, %d): %+v, %v, want %+v, %v", x.key, x.now, got, is, x.want, x.is)
		}
		has(t, k, at(1, 9, 10), fixed(2, 8))
	}
}

// P10.4: Get of what is no time is none, also of a fixed one.
func TestGetNoTime(t *testing.T) {
	k := table(t, 3, lastTime)
	put(t, k, 1, 9, lastTime)
	fix(t, k, 2, 8)
	for _, now := range noTimes() {
		for key := uint64(1); key <= 3; key++ {
			if got, is := k.Get(key, now); got != (api.Entry{}) || is {
				t.Errorf("Get(%d, %d): %+v, %v", key, now, got, is)
			}
		}
	}
}

// P10.4: with the longest life what was put at 0 is old at the last time alone, what was put later never.
func TestLongest(t *testing.T) {
	k := table(t, 3, lastTime)
	put(t, k, 1, 9, 0)
	put(t, k, 2, 9, 1)
	put(t, k, 3, 9, lastTime-1)
	if k.Expire(lastTime-1) != 0 {
		t.Error("too early")
	}
	if _, is := k.Get(1, lastTime-1); !is {
		t.Error("too early")
	}
	if _, is := k.Get(1, lastTime); is {
		t.Error("too late")
	}
	if n := k.Expire(lastTime); n != 1 {
		t.Error(n)
	}
	has(t, k, at(2, 9, 1), at(3, 9, lastTime-1))
}

// P10.4: with the shortest life an entry is there at its own time, and no longer.
func TestShortest(t *testing.T) {
	k := table(t, 3, 1)
	put(t, k, 1, 9, 7)
	if _, is := k.Get(1, 7); !is {
		t.Error("too early")
	}
	if _, is := k.Get(1, 8); is {
		t.Error("too late")
	}
	if k.Expire(7) != 0 || k.Expire(8) != 1 {
		t.Error(k.Entries())
	}
}

// P10.4: Drop takes one out, fixed, old or not, and tells it; of none it tells no.
func TestDrop(t *testing.T) {
	k := table(t, 4, 5)
	for _, key := range []uint64{0, 2, lastKey} {
		if k.Drop(key) {
			t.Errorf("Drop(%d): yes, of an empty table", key)
		}
	}
	fix(t, k, 2, 2)
	put(t, k, 3, 3, lastTime)
	put(t, k, 1, 1, 0)
	for _, x := range []struct {
		key  uint64
		is   bool
		want []api.Entry
	}{
		{0, false, []api.Entry{at(1, 1, 0), fixed(2, 2), at(3, 3, lastTime)}},
		{4, false, []api.Entry{at(1, 1, 0), fixed(2, 2), at(3, 3, lastTime)}},
		{2, true, []api.Entry{at(1, 1, 0), at(3, 3, lastTime)}},
		{2, false, []api.Entry{at(1, 1, 0), at(3, 3, lastTime)}},
		{1, true, []api.Entry{at(3, 3, lastTime)}},
		{3, true, nil},
		{3, false, nil},
	} {
		if is := k.Drop(x.key); is != x.is {
			t.Errorf("Drop(%d): %v, want %v", x.key, is, x.is)
		}
		has(t, k, x.want...)
	}
}

// P10.4: where one was dropped there is room; what was fixed may be put then.
func TestDropFixed(t *testing.T) {
	k := table(t, 2, 5)
	fix(t, k, 1, 1)
	fix(t, k, 2, 2)
	k.Drop(1)
	put(t, k, 1, 7, 3)
	has(t, k, at(1, 7, 3), fixed(2, 2))
}

// P10.4: Clear takes out what has the value, old or not, but for what is fixed.
func TestClear(t *testing.T) {
	k := table(t, 6, 5)
	put(t, k, 5, 9, lastTime)
	fix(t, k, 3, 9)
	put(t, k, 1, 9, 0)
	put(t, k, 2, 8, 0)
	put(t, k, 4, 0, 0)
	put(t, k, 9, lastKey, 0)
	for _, x := range []struct {
		value uint64
		n     int
		want  []api.Entry
	}{
		{7, 0, []api.Entry{at(1, 9, 0), at(2, 8, 0), fixed(3, 9), at(4, 0, 0), at(5, 9, lastTime), at(9, lastKey, 0)}},
		{9, 2, []api.Entry{at(2, 8, 0), fixed(3, 9), at(4, 0, 0), at(9, lastKey, 0)}},
		{9, 0, []api.Entry{at(2, 8, 0), fixed(3, 9), at(4, 0, 0), at(9, lastKey, 0)}},
		{0, 1, []api.Entry{at(2, 8, 0), fixed(3, 9), at(9, lastKey, 0)}},
		{lastKey, 1, []api.Entry{at(2, 8, 0), fixed(3, 9)}},
		{8, 1, []api.Entry{fixed(3, 9)}},
	} {
		if n := k.Clear(x.value); n != x.n {
			t.Errorf("Clear(%d): %d, want %d", x.value, n, x.n)
		}
		has(t, k, x.want...)
	}
}

// P10.4: Clear of an empty table is none.
func TestClearNone(t *testing.T) {
	if n := table(t, 1, 1).Clear(0); n != 0 {
		t.Error(n)
	}
}

// P10.4: Expire takes out what is old, and none that is fixed.
func TestExpire(t *testing.T) {
	k := table(t, 5, 5)
	put(t, k, 4, 1, 2)
	put(t, k, 3, 1, 1)
	fix(t, k, 2, 1)
	put(t, k, 1, 1, 2)
	put(t, k, 5, 1, 4)
	for _, x := range []struct {
		now, n int
		want   []api.Entry
	}{
		{0, 0, []api.Entry{at(1, 1, 2), fixed(2, 1), at(3, 1, 1), at(4, 1, 2), at(5, 1, 4)}},
		{5, 0, []api.Entry{at(1, 1, 2), fixed(2, 1), at(3, 1, 1), at(4, 1, 2), at(5, 1, 4)}},
		{6, 1, []api.Entry{at(1, 1, 2), fixed(2, 1), at(4, 1, 2), at(5, 1, 4)}},
		{6, 0, []api.Entry{at(1, 1, 2), fixed(2, 1), at(4, 1, 2), at(5, 1, 4)}},
		{8, 2, []api.Entry{fixed(2, 1), at(5, 1, 4)}},
		{lastTime, 1, []api.Entry{fixed(2, 1)}},
		{lastTime, 0, []api.Entry{fixed(2, 1)}},
	} {
		if n := k.Expire(x.now); n != x.n {
			t.Errorf("Expire(%d): %d, want %d", x.now, n, x.n)
		}
		has(t, k, x.want...)
	}
}

// P10.4: Expire of what is no time takes none out.
func TestExpireNoTime(t *testing.T) {
	k := table(t, 3, 1)
	put(t, k, 1, 1, 0)
	fix(t, k, 2, 1)
	for _, now := range noTimes() {
		if n := k.Expire(now); n != 0 {
			t.Errorf("Expire(%d): %d", now, n)
		}
		has(t, k, at(1, 1, 0), fixed(2, 1))
	}
}

// P10.4: Entries go by rising keys, in whatever order they came; keys and values are of all 64 bits.
func TestEntries(t *testing.T) {
	keys := []uint64{1 << 63, 0, 7, lastKey, 1<<63 - 1, 5, 1 << 32, 6}
	want := slices.Clone(keys)
	slices.Sort(want)
	for turn := range keys {
		k := table(t, len(keys), lastTime)
		for i := range keys {
			key := keys[(i+turn)%len(keys)]
			if i%3 == 0 {
				fix(t, k, key, ^key)
			} else {
				put(t, k, key, ^key, i)
			}
		}
		got := k.Entries()
		if len(got) != len(want) {
			t.Fatalf("%+v", got)
		}
		for i, e := range got {
			if e.Key != want[i] || e.Value != ^want[i] {
				t.Errorf("%d: %+v, want the key %d", i, e, want[i])
			}
			if g, is := k.Get(e.Key, 0); g != e || !is {
				t.Errorf("Get(%d, 0): %+v, %v, want %+v", e.Key, g, is, e)
			}
		}
	}
}

// P10.4: what Entries answers is its asker's, spare room too.
func TestEntriesNew(t *testing.T) {
	k := table(t, 4, 5)
	put(t, k, 1, 1, 1)
	put(t, k, 2, 2, 2)
	a, b := k.Entries(), k.Entries()
	for i := range a {
		a[i] = fixed(9, 9)
	}
	for range 5 {
		a = append(a, fixed(9, 9))
	}
	if !slices.Equal(b, []api.Entry{at(1, 1, 1), at(2, 2, 2)}) {
		t.Errorf("%+v", b)
	}
	put(t, k, 3, 3, 3)
	has(t, k, at(1, 1, 1), at(2, 2, 2), at(3, 3, 3))
	if !slices.Equal(b, []api.Entry{at(1, 1, 1), at(2, 2, 2)}) {
		t.Errorf("%+v", b)
	}
}

// P10.4: a copy has the same entries, room and life, and goes its own way; so does its original.
func TestCopy(t *testing.T) {
	changes := []func(k *ages.Table){
		func(k *ages.Table) { k.Put(2, 9, 5) },
		func(k *ages.Table) { k.Put(0, 9, 5) },
		func(k *ages.Table) { k.Fix(2, 9) },
		func(k *ages.Table) { k.Fix(9, 9) },
		func(k *ages.Table) { k.Drop(1) },
		func(k *ages.Table) { k.Clear(2) },
		func(k *ages.Table) { k.Expire(lastTime) },
		func(k *ages.Table) { k.Put(7, 9, 5); k.Put(8, 9, 5); k.Put(9, 9, 5) },
	}
	for i, change := range changes {
		for _, own := range []bool{false, true} {
			k := table(t, 4, 5)
			put(t, k, 2, 2, 1)
			fix(t, k, 1, 1)
			put(t, k, 3, 2, 2)
			a, b := k, k.Copy()
			if own {
				a, b = b, a
			}
			change(a)
			has(t, b, fixed(1, 1), at(2, 2, 1), at(3, 2, 2))
			if slices.Equal(a.Entries(), b.Entries()) {
				t.Errorf("change %d made none", i)
			}
			change(b)
			has(t, b, a.Entries()...)
		}
	}
}

// P10.4: a copy has its original's room and life.
func TestCopyBounds(t *testing.T) {
	c := table(t, 2, 5).Copy()
	put(t, c, 1, 1, 0)
	put(t, c, 2, 2, 1)
	put(t, c, 3, 3, 1)
	has(t, c, at(2, 2, 1), at(3, 3, 1))
	if c.Expire(5) != 0 || c.Expire(6) != 2 {
		t.Error(c.Entries())
	}
}

// P10.5: the greatest table is filled, and has no more entries than there is room.
func TestGreatest(t *testing.T) {
	const room = 4096
	k := table(t, room, lastTime)
	for i := range 2 * room {
		key := uint64(i) * 2654435761 % 8191
		put(t, k, key, key, i)
		if n := len(k.Entries()); n != min(i+1, room) {
			t.Fatalf("%d entries behind %d", n, i+1)
		}
	}
	for i := range room {
		fix(t, k, uint64(i)<<40+1, 1)
	}
	if e := k.Fix(0, 1); e != api.ErrAgesFull || len(k.Entries()) != room {
		t.Error(e, len(k.Entries()))
	}
}

// model is a table told in the chapter's words, entry by entry.
type model struct {
	room, life int
	of         map[uint64]api.Entry
}

// keys are the model's, rising.
func (m *model) keys() []uint64 {
	var out []uint64
	for key := range m.of {
		out = append(out, key)
	}
	slices.Sort(out)
	return out
}

func (m *model) old(e api.Entry, now int) bool { return !e.Fixed && now-m.life >= e.At }

// remove takes out those, and tells how many.
func (m *model) remove(those func(e api.Entry) bool) int {
	n := 0
	for _, key := range m.keys() {
		if those(m.of[key]) {
			delete(m.of, key)
			n++
		}
	}
	return n
}

// further lets there be one more.
func (m *model) further(e api.Entry) api.Errno {
	if len(m.of) == m.room {
		goes := api.Entry{Fixed: true}
		for _, key := range m.keys() {
			if x := m.of[key]; !x.Fixed && (goes.Fixed || x.At < goes.At) {
				goes = x
			}
		}
		if goes.Fixed {
			return api.ErrAgesFull
		}
		delete(m.of, goes.Key)
	}
	m.of[e.Key] = e
	return api.OK
}

func (m *model) put(key, value uint64, now int) api.Errno {
	was, is := m.of[key]
	switch {
	case now < 0 || now > lastTime:
		return api.ErrArg
	case is && was.Fixed:
		return api.ErrAgesFixed
	case is:
		m.of[key] = at(key, value, now)
		return api.OK
	}
	m.remove(func(e api.Entry) bool { return m.old(e, now) })
	return m.further(at(key, value, now))
}

func (m *model) fix(key, value uint64) api.Errno {
	if _, is := m.of[key]; is {
		m.of[key] = fixed(key, value)
		return api.OK
	}
	return m.further(fixed(key, value))
}

func (m *model) get(key uint64, now int) (api.Entry, bool) {
	e, is := m.of[key]
	if !is || now < 0 || now > lastTime || m.old(e, now) {
		return api.Entry{}, false
	}
	return e, true
}

func (m *model) expire(now int) int {
	if now < 0 || now > lastTime {
		return 0
	}
	return m.remove(func(e api.Entry) bool { return m.old(e, now) })
}

// step does one thing to both, told by a number, and tells both answers as texts.
func step(k *ages.Table, m *model, x uint64, now int) (string, string) {
	key, value := x>>8%12, x>>16%4
	switch x % 16 {
	case 0:
		return fmt.Sprint("fix ", k.Fix(key, value)), fmt.Sprint("fix ", m.fix(key, value))
	case 1:
		_, is := m.of[key]
		delete(m.of, key)
		return fmt.Sprint("drop ", k.Drop(key)), fmt.Sprint("drop ", is)
	case 2:
		return fmt.Sprint("clear ", k.Clear(value)), fmt.Sprint("clear ", m.remove(func(e api.Entry) bool { return !e.Fixed && e.Value == value }))
	case 3:
		return fmt.Sprint("expire ", k.Expire(now)), fmt.Sprint("expire ", m.expire(now))
	case 4, 5, 6:
		a, is := k.Get(key, now)
		b, be := m.get(key, now)
		return fmt.Sprint("get ", a, is), fmt.Sprint("get ", b, be)
	}
	return fmt.Sprint("put ", k.Put(key, value, now)), fmt.Sprint("put ", m.put(key, value, now))
}

// P10.2 to P10.5: whatever is done, the table is as the chapter says, within its room, and a fixed entry goes by Drop alone.
func TestAny(t *testing.T) {
	next := source()
	said := map[string]int{}
	for range 400 {
		room, life := 1+int(next()>>20%8), 1+int(next()>>20%6)
		k, m := table(t, room, life), &model{room, life, map[uint64]api.Entry{}}
		base := []int{0, 1000, lastTime - 60}[next()>>20%3]
		for i := range 120 {
			now := base + i/2 + int(next()>>20%5) - 2
			before := k.Entries()
			x := next() >> 10
			got, want := step(k, m, x, now)
			said[want]++
			if got != want {
				t.Fatalf("at %d of room %d, life %d: %s, want %s", now, room, life, got, want)
			}
			var all []api.Entry
			for _, key := range m.keys() {
				all = append(all, m.of[key])
			}
			after := k.Entries()
			if !slices.Equal(after, all) || len(after) > room {
				t.Fatalf("%s at %d: it has %+v, want %+v", want, now, after, all)
			}
			for _, e := range before {
				if g, is := k.Get(e.Key, 0); e.Fixed && x%16 != 1 && (!is || !g.Fixed) {
					t.Fatalf("%s at %d: the fixed %+v is %+v", want, now, e, g)
				}
			}
			if next()>>20%16 == 0 { // a copy goes on where its original was
				k = k.Copy()
			}
		}
	}
	for _, s := range []string{"put error 0", "put error 1", "put error 100", "put error 101", "fix error 0", "fix error 101", "drop true", "drop false", "expire 0", "expire 3", "clear 2"} {
		if said[s] == 0 {
			t.Errorf("never tried: %s", s)
		}
	}
}
