package vectors_test

import (
	"math"
	"slices"
	"testing"

	"gangway/api"
	"gangway/vectors"
)

const (
	farthest = 1 << 32
	lastWord = math.MaxUint64
)

// vector is one of its five parts.
func vector(root uint64, cost int, bridge uint64, port, on int) api.Vector {
	return api.Vector{Root: root, Cost: cost, Bridge: bridge, Port: port, On: on}
}

// sign is what Compare must be, part by part.
func sign(a, b api.Vector) int {
	switch {
	case a.Root < b.Root:
		return -1
	case a.Root > b.Root:
		return 1
	case a.Cost < b.Cost:
		return -1
	case a.Cost > b.Cost:
		return 1
	case a.Bridge < b.Bridge:
		return -1
	case a.Bridge > b.Bridge:
		return 1
	case a.Port < b.Port:
		return -1
	case a.Port > b.Port:
		return 1
	case a.On < b.On:
		return -1
	case a.On > b.On:
		return 1
	}
	return 0
}

// compared holds Compare of two against a sign, and the other way round against the other one.
func compared(t *testing.T, a, b api.Vector, want int) {
	t.Helper()
	if got := vectors.Compare(a, b); got != want {
		t.Errorf("Compare(%+v, %+v): %d, want %d", a, b, got, want)
	}
	if got := vectors.Compare(b, a); got != -want {
		t.Errorf("Compare(%+v, %+v): %d, want %d", b, a, got, -want)
	}
}

// words are unsigned numbers, rising: the least, the greatest, and those about 2^63.
func words() []uint64 {
	return []uint64{0, 1, 2, 1 << 32, 1<<63 - 1, 1 << 63, 1<<63 + 1, lastWord - 1, lastWord}
}

// numbers are signed ones, rising: the least, the greatest, and those about 0 and about 2^32.
func numbers() []int {
	return []int{math.MinInt, math.MinInt + 1, -farthest - 1, -farthest, -2, -1, 0, 1, 2, farthest - 1, farthest, farthest + 1, math.MaxInt - 1, math.MaxInt}
}

// isRight tells whether a number may be a part, or a cost.
func isRight(n int) bool { return n >= 0 && n <= 4294967296 }

// few are vectors of all parts at a few numbers each, of both signs where that may be.
func few() []api.Vector {
	var out []api.Vector
	for _, root := range []uint64{0, 1, lastWord} {
		for _, cost := range []int{math.MinInt, 0, 7} {
			for _, bridge := range []uint64{3, 1 << 63} {
				for _, port := range []int{-1, 0, math.MaxInt} {
					for _, on := range []int{-5, 5} {
						out = append(out, vector(root, cost, bridge, port, on))
					}
				}
			}
		}
	}
	return out
}

// source answers numbers, the same ones in each run.
func source() func() uint64 {
	x := uint64(88172645463325252)
	return func() uint64 {
		x ^= x << 13
		x ^= x >> 7
		x ^= x << 17
		return x
	}
}

// anyOf is a vector of numbers at which something may change.
func anyOf(next func() uint64) api.Vector {
	word := func() uint64 { return words()[next()>>20%9] }
	number := func() int { return numbers()[next()>>20%14] }
	return vector(word(), number(), word(), number(), number())
}

// P13.1: the chapter's examples: a better root, whatever else; of one root, less cost.
func TestCompareExamples(t *testing.T) {
	for _, worst := range []api.Vector{vector(1, 0, 0, 0, 0), vector(1, farthest, lastWord, farthest, farthest), vector(1, math.MaxInt, lastWord, math.MaxInt, math.MaxInt)} {
		for _, best := range []api.Vector{vector(2, 0, 0, 0, 0), vector(2, 9, 9, 9, 9), vector(2, math.MinInt, 0, math.MinInt, math.MinInt)} {
			compared(t, worst, best, -1)
		}
	}
	compared(t, vector(5, 3, 0, 0, 0), vector(5, 4, 0, 0, 0), -1)
	compared(t, vector(5, 3, 9, 9, 9), vector(5, 4, 1, 1, 1), -1)
}

// P13.1: two that differ in one part alone.
func TestCompareOne(t *testing.T) {
	base := vector(5, 5, 5, 5, 5)
	compared(t, base, base, 0)
	for _, x := range []struct{ less, more api.Vector }{
		{vector(4, 5, 5, 5, 5), vector(6, 5, 5, 5, 5)},
		{vector(5, 4, 5, 5, 5), vector(5, 6, 5, 5, 5)},
		{vector(5, 5, 4, 5, 5), vector(5, 5, 6, 5, 5)},
		{vector(5, 5, 5, 4, 5), vector(5, 5, 5, 6, 5)},
		{vector(5, 5, 5, 5, 4), vector(5, 5, 5, 5, 6)},
	} {
		compared(t, x.less, base, -1)
		compared(t, base, x.more, -1)
		compared(t, x.less, x.more, -1)
	}
}

// P13.1: of two that differ in several parts the first one counts, in the order Root, Cost, Bridge, Port, On, a later one be it the other way round.
func TestCompareOrder(t *testing.T) {
	for n := range 243 { // each part of a is less, the same, or more
		var d [5]int
		first := 0
		for i, rest := 0, n; i < len(d); i, rest = i+1, rest/3 {
			d[i] = rest%3 - 1
			if first == 0 {
				first = d[i]
			}
		}
		a := vector(uint64(5+d[0]), 5+d[1], uint64(5+d[2]), 5+d[3], 5+d[4])
		compared(t, a, vector(5, 5, 5, 5, 5), first)
		b := vector(uint64(5+d[0]*5), 5+d[1]*99, uint64(5+d[2]*5), 5+d[3]*99, 5+d[4]*99) // by how much does not matter
		compared(t, b, vector(5, 5, 5, 5, 5), first)
	}
}

// P13.1: each part at all numbers of its type, the least and the greatest ones too; how the other parts are behind it does not matter.
func TestCompareEdges(t *testing.T) {
	for _, first := range words() {
		for _, then := range words() {
			want := sign(vector(first, 0, 0, 0, 0), vector(then, 0, 0, 0, 0))
			for _, last := range numbers() {
				a, b := vector(first, last, 1, last, last), vector(then, last, 1, last, last)
				compared(t, a, b, want)
				compared(t, vector(1, last, first, last, last), vector(1, last, then, last, last), want)
				if want != 0 {
					compared(t, vector(first, last, 0, 0, 0), vector(then, 0, 0, 0, 0), want)
					compared(t, vector(7, -1, first, last, 0), vector(7, -1, then, 0, last), want)
				}
			}
		}
	}
	for i, first := range numbers() {
		for j, then := range numbers() {
			want := min(max(i-j, -1), 1)
			for _, w := range words() {
				compared(t, vector(w, first, w, 1, 1), vector(w, then, w, 1, 1), want)
				compared(t, vector(w, 1, w, first, 1), vector(w, 1, w, then, 1), want)
				compared(t, vector(w, 1, w, 1, first), vector(w, 1, w, 1, then), want)
			}
		}
	}
}

// P13.1: bridges' numbers above 2^63 are worse than those below it, not better.
func TestCompareGreat(t *testing.T) {
	for i, less := range words() {
		for _, more := range words()[i+1:] {
			compared(t, vector(less, 9, 9, 9, 9), vector(more, 0, 0, 0, 0), -1)
			compared(t, vector(9, 9, less, 9, 9), vector(9, 9, more, 0, 0), -1)
		}
	}
	compared(t, vector(1<<63, 0, 0, 0, 0), vector(0x8000_0000_0000_0001, 0, 0, 0, 0), -1)
	compared(t, vector(0x7fff_ffff_ffff_ffff, 0, 0, 0, 0), vector(0x8000_0000_0000_0000, 0, 0, 0, 0), -1)
}

// P13.1: any two, one of them often made from the other one.
func TestCompareAny(t *testing.T) {
	next := source()
	for range 100000 {
		a, b := anyOf(next), anyOf(next)
		if n := next() >> 20 % 6; n > 0 { // as many parts are the same
			for i, same := range []func(){func() { b.Root = a.Root }, func() { b.Cost = a.Cost }, func() { b.Bridge = a.Bridge }, func() { b.Port = a.Port }, func() { b.On = a.On }} {
				if uint64(i) < n {
					same()
				}
			}
		}
		compared(t, a, b, sign(a, b))
		compared(t, a, a, 0)
	}
}

// P13.3: of any two one is better, or they are one; and what is better than one that is better than a third one is better than this.
func TestCompareIsAnOrder(t *testing.T) {
	all := few()
	holds := make([][]int, len(all))
	for i, a := range all {
		holds[i] = make([]int, len(all))
		for j, b := range all {
			holds[i][j] = vectors.Compare(a, b)
			if (holds[i][j] == 0) != (a == b) {
				t.Errorf("Compare(%+v, %+v): %d", a, b, holds[i][j])
			}
		}
	}
	for i := range all {
		for j := range all {
			if holds[i][j] != -holds[j][i] || holds[i][j] < -1 || holds[i][j] > 1 {
				t.Errorf("%+v, %+v: %d, the other way round %d", all[i], all[j], holds[i][j], holds[j][i])
			}
			for k := range all {
				if holds[i][j] < 0 && holds[j][k] < 0 && holds[i][k] >= 0 {
					t.Fatalf("%+v is better than %+v, this than %+v, and the first one is not better than that: %d", all[i], all[j], all[k], holds[i][k])
				}
			}
		}
	}
}

// P13.2: Cost, Port and On are 0 to 2^32; Root and Bridge are any.
func TestRight(t *testing.T) {
	for _, n := range append(numbers(), 5, 100, 1<<16, 1<<31, 1<<31+1, 1<<33, 1<<62, -1<<31, -1<<62, 1<<62+1<<31, -1<<62+5) {
		for _, w := range words() {
			for i, v := range []api.Vector{vector(w, n, w, 0, 0), vector(w, 0, w, n, 0), vector(w, 0, w, 0, n), vector(w, n, w, n, n), vector(w, n, 1, farthest, farthest), vector(1, farthest, w, n, farthest), vector(w, farthest, 1, farthest, n)} {
				if got := vectors.Right(v); got != isRight(n) {
					t.Errorf("%d: Right(%+v): %v", i, v, got)
				}
			}
		}
	}
}

// P13.2: several parts that are not right are none the better.
func TestNotRight(t *testing.T) {
	for _, less := range []int{-1, math.MinInt, farthest + 1, math.MaxInt} {
		for _, more := range []int{-1, math.MinInt, farthest + 1, math.MaxInt} {
			for _, v := range []api.Vector{vector(1, less, 1, more, 1), vector(1, less, 1, 1, more), vector(1, 1, 1, less, more), vector(1, less, 1, more, less)} {
				if vectors.Right(v) {
					t.Errorf("Right(%+v)", v)
				}
			}
		}
	}
}

// plus holds Plus against a Cost; all else stays.
func plus(t *testing.T, v api.Vector, cost, want int) {
	t.Helper()
	w := v
	w.Cost = want
	if got := vectors.Plus(v, cost); got != w {
		t.Errorf("Plus(%+v, %d): %+v, want %+v", v, cost, got, w)
	}
}

// P13.2: a Cost that is cost more, as long as that is not above 2^32.
func TestPlus(t *testing.T) {
	for _, x := range []struct{ at, cost, want int }{
		{0, 0, 0}, {3, 4, 7}, {0, 5, 5}, {5, 0, 5}, {200000, 20000, 220000}, {1, 1<<31 - 1, 1 << 31}, {1<<31 - 1, 1, 1 << 31}, {1 << 30, 1 << 31, 3 << 30},
		{farthest - 2, 1, farthest - 1}, {1, farthest - 2, farthest - 1}, {0, farthest - 1, farthest - 1}, {farthest - 1, 0, farthest - 1}, // a sum at 2^32 less 1
		{farthest - 1, 1, farthest}, {1, farthest - 1, farthest}, {0, farthest, farthest}, {farthest, 0, farthest}, {1 << 31, 1 << 31, farthest}, // at 2^32
		{farthest - 1, 2, farthest}, {2, farthest - 1, farthest}, {1, farthest, farthest}, {farthest, 1, farthest}, {farthest, farthest, farthest}, {1<<31 + 1, 1 << 31, farthest}, // above it
	} {
		for _, v := range []api.Vector{
			vector(5, x.at, 6, 7, 8), vector(0, x.at, 0, 0, 0), vector(lastWord, x.at, 1<<63, farthest, farthest), vector(1<<63, x.at, lastWord, 0, farthest),
		} {
			plus(t, v, x.cost, x.want)
		}
	}
}

// P13.2: with a cost below 0 or above 2^32 the Cost is 2^32, whatever the sum would be.
func TestPlusNoCost(t *testing.T) {
	for _, cost := range []int{-1, -2, -5, -farthest, -farthest - 1, -1 << 62, math.MinInt, math.MinInt + 1, farthest + 1, farthest + 5, 1 << 33, 1 << 62, math.MaxInt - 1, math.MaxInt} {
		for _, at := range []int{0, 1, 5, farthest - 1, farthest} {
			plus(t, vector(5, at, 6, 7, 8), cost, farthest)
			plus(t, vector(lastWord, at, 1<<63, farthest, 0), cost, farthest)
		}
	}
}

// P13.2: of one that is not right, in Cost, in Port, in On, or in several, the Cost is 2^32, whatever the cost is; what else is wrong stays.
func TestPlusNotRight(t *testing.T) {
	for _, wrong := range []int{-1, -2, -farthest, math.MinInt, math.MinInt + 1, farthest + 1, 1 << 33, 1 << 62, math.MaxInt - 1, math.MaxInt} {
		for _, v := range []api.Vector{
			vector(5, wrong, 6, 7, 8), vector(5, 3, 6, wrong, 8), vector(5, 3, 6, 7, wrong), vector(5, wrong, 6, wrong, 8), vector(lastWord, 0, lastWord, wrong, wrong), vector(1<<63, wrong, 0, -1, farthest+1), vector(0, farthest, 0, wrong, 0),
		} {
			for _, cost := range append(numbers(), 7, -7) {
				plus(t, v, cost, farthest)
			}
		}
	}
}

// P13.2: any vector and any cost, by floats, which have room for each sum.
func TestPlusAny(t *testing.T) {
	next := source()
	for range 100000 {
		v, cost := anyOf(next), numbers()[next()>>20%14]
		if next()>>20%2 == 0 {
			v.Port, v.On = int(next()>>20%99), int(next()>>20%99)
		}
		if next()>>20%4 == 0 {
			v.Cost, cost = int(next()>>30), int(next()>>30)
		}
		want := farthest
		if isRight(v.Cost) && isRight(v.Port) && isRight(v.On) && isRight(cost) && float64(v.Cost)+float64(cost) <= farthest {
			want = v.Cost + cost
		}
		plus(t, v, cost, want)
	}
}

// P13.3: what is farther is not better: not than it was, nor than what is less far; a Cost above 2^32 alone, which is none, becomes 2^32 (P13.2).
func TestFartherIsNotBetter(t *testing.T) {
	next := source()
	for range 20000 {
		v := anyOf(next)
		v.Cost = min(v.Cost, farthest)
		if next()>>20%2 == 0 {
			v.Cost, v.Port, v.On = int(next()>>30), 1, 2
			v.Cost = min(v.Cost, farthest)
		}
		for i, cost := range numbers() {
			w := vectors.Plus(v, cost)
			if vectors.Compare(w, v) < 0 {
				t.Fatalf("%+v, that is %+v and %d, is better", w, v, cost)
			}
			if again := vectors.Plus(w, cost); vectors.Compare(again, w) < 0 {
				t.Fatalf("%+v, that is %+v and %d, is better", again, w, cost)
			}
			for _, more := range numbers()[i:] {
				if cost >= 0 && vectors.Compare(vectors.Plus(v, more), w) < 0 {
					t.Fatalf("%+v and %d is better than it and %d", v, more, cost)
				}
			}
		}
	}
}

// P13.3: a way that is longer in truth is worse, not as good.
func TestFartherIsWorse(t *testing.T) {
	for _, at := range []int{0, 1, 5, farthest - 1} {
		for _, cost := range []int{1, 2, 1 << 24, farthest} {
			v := vector(5, at, 5, 5, 5)
			compared(t, v, vectors.Plus(v, cost), -1)
			compared(t, v, vectors.Plus(v, 0), 0)
		}
	}
}

// P13.2: Of takes a message's Root, Cost, Bridge and Port, and the port; nothing else of it makes a difference.
func TestOf(t *testing.T) {
	for _, b := range []api.Bpdu{
		{}, {Kind: api.BpduRapid}, {Kind: api.BpduChange}, {Kind: -7},
		{Kind: api.BpduRapid, Change: true, Propose: true, Learn: true, Forward: true, Agree: true, Ack: true, Role: api.ToldDesignated, Age: 11, MaxAge: 12, Hello: 13, Delay: 14},
		{Kind: api.BpduConfig, Role: -1, Age: math.MinInt, MaxAge: math.MaxInt, Hello: -1, Delay: 1 << 40}, // it may not be
	} {
		for _, w := range words() {
			for _, n := range numbers() {
				b.Root, b.Cost, b.Bridge, b.Port = w, n, w/2+1, n/2+3
				for _, on := range append(numbers(), 6) {
					if v := vectors.Of(b, on); v != vector(w, n, w/2+1, n/2+3, on) {
						t.Errorf("Of(%+v, %d): %+v", b, on, v)
					}
				}
			}
		}
	}
}

// P13.2: each part stands in its own place.
func TestOfPlaces(t *testing.T) {
	for _, x := range []struct {
		b    api.Bpdu
		on   int
		want api.Vector
	}{
		{api.Bpdu{Root: 1, Cost: 2, Bridge: 3, Port: 4, Age: 9}, 6, vector(1, 2, 3, 4, 6)},
		{api.Bpdu{Root: 7}, 0, api.Vector{Root: 7}},
		{api.Bpdu{Cost: 7}, 0, api.Vector{Cost: 7}},
		{api.Bpdu{Bridge: 7}, 0, api.Vector{Bridge: 7}},
		{api.Bpdu{Port: 7}, 0, api.Vector{Port: 7}},
		{api.Bpdu{}, 7, api.Vector{On: 7}},
		{api.Bpdu{Root: lastWord, Cost: 1<<32 - 1, Bridge: 1 << 63, Port: 65535}, 64, vector(lastWord, 1<<32-1, 1<<63, 65535, 64)},
		{api.Bpdu{Root: 1, Cost: -1, Bridge: 1, Port: 65536}, -1, vector(1, -1, 1, 65536, -1)},
	} {
		if v := vectors.Of(x.b, x.on); v != x.want {
			t.Errorf("Of(%+v, %d): %+v, want %+v", x.b, x.on, v, x.want)
		}
	}
}

// best holds Best against a number, and the list and the room behind it against what they were.
func best(t *testing.T, l []api.Vector, want int) {
	t.Helper()
	behind := vector(0, math.MinInt, 0, math.MinInt, math.MinInt) // none is better; it is not in the list
	room := append(slices.Clone(l), behind, behind, behind)
	was := slices.Clone(room)
	if got := vectors.Best(room[:len(l)]); got != want {
		t.Errorf("Best(%+v): %d, want %d", l, got, want)
	}
	if !slices.Equal(room, was) {
		t.Errorf("Best(%+v): the list and what stands behind it became %+v", l, room)
	}
}

// P13.2: Best of none is -1, of one 0.
func TestBestOfFew(t *testing.T) {
	if n := vectors.Best(nil); n != -1 {
		t.Errorf("Best(nil): %d", n)
	}
	best(t, []api.Vector{}, -1)
	for range 2 { // an earlier call's list makes no difference
		for _, v := range few() {
			best(t, []api.Vector{v}, 0)
		}
		best(t, nil, -1)
	}
}

// P13.2: the best one is first, in the midst, last; of several that are as good the first one counts.
func TestBest(t *testing.T) {
	good, other, bad := vector(5, 5, 5, 5, 4), vector(5, 5, 5, 5, 5), vector(6, 0, 0, 0, 0)
	for _, x := range []struct {
		l    []api.Vector
		want int
	}{
		{[]api.Vector{good, other}, 0}, {[]api.Vector{other, good}, 1}, {[]api.Vector{good, good}, 0},
		{[]api.Vector{good, other, bad}, 0}, {[]api.Vector{other, good, bad}, 1}, {[]api.Vector{other, bad, good}, 2}, {[]api.Vector{bad, other, good}, 2},
		{[]api.Vector{good, good, good}, 0}, {[]api.Vector{other, good, good}, 1}, {[]api.Vector{good, other, good}, 0}, {[]api.Vector{good, good, other}, 0},
		{[]api.Vector{bad, other, good, other, good, bad, good}, 2}, {[]api.Vector{bad, bad, bad, other}, 3}, {[]api.Vector{bad, other, bad, other}, 1},
	} {
		best(t, x.l, x.want)
	}
}

// P13.2: one that is better in any part is best, also one that may not be.
func TestBestParts(t *testing.T) {
	base := vector(5, 5, 5, 5, 5)
	for _, v := range []api.Vector{
		vector(4, 99, 99, 99, 99), vector(5, 4, 99, 99, 99), vector(5, 5, 4, 99, 99), vector(5, 5, 5, 4, 99), vector(5, 5, 5, 5, 4),
		vector(0, math.MaxInt, lastWord, math.MaxInt, math.MaxInt), vector(5, -1, 5, 5, 5), vector(5, math.MinInt, 5, 5, 5), vector(5, 5, 0, 5, 5), vector(5, 5, 5, -1, 5), vector(5, 5, 5, 5, math.MinInt),
	} {
		best(t, []api.Vector{v, base, base}, 0)
		best(t, []api.Vector{base, v, base}, 1)
		best(t, []api.Vector{base, base, v}, 2)
		best(t, []api.Vector{base, v, base, v}, 1)
	}
	for _, v := range []api.Vector{vector(1<<63, 0, 0, 0, 0), vector(lastWord, -1, 0, 0, 0), vector(5, 5, 1<<63, 0, 0), vector(5, 5, 5, 5, farthest+1), vector(5, math.MaxInt, 0, 0, 0)} { // these are worse
		best(t, []api.Vector{v, base, v}, 1)
		best(t, []api.Vector{v, v, base}, 2)
		best(t, []api.Vector{base, v, v}, 0)
	}
}

// P13.2: of any list it is the first one that no other one is better than.
func TestBestAny(t *testing.T) {
	next := source()
	all := few()
	for range 20000 {
		l := make([]api.Vector, next()>>20%12)
		for i := range l {
			l[i] = all[next()>>20%uint64(len(all))]
			if i > 0 && next()>>20%3 == 0 { // as good as an earlier one
				l[i] = l[next()>>20%uint64(i)]
			}
		}
		want := -1
		for i := len(l) - 1; i >= 0; i-- {
			if !slices.ContainsFunc(l, func(v api.Vector) bool { return sign(v, l[i]) < 0 }) {
				want = i
			}
		}
		best(t, l, want)
	}
}

// P13.2: a long list.
func TestBestLong(t *testing.T) {
	l := make([]api.Vector, 70000)
	for i := range l {
		l[i] = vector(uint64(len(l)-i), i, 1, 1, 1)
	}
	best(t, l, len(l)-1)
	slices.Reverse(l)
	best(t, l, 0)
	l[40000] = vector(0, 0, 0, 0, 0)
	l[65540] = l[40000]
	best(t, l, 40000)
}
