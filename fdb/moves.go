package fdb

import "slices"

// moves are the times at which addresses moved, by their keys, the earliest first; no key has an empty list.
type moves map[uint64][]int

// counting is how many moves of a key count at a time.
func (m moves) counting(key uint64, now, window int) int {
	n := 0
	for _, at := range m[key] {
		if counts(at, now, window) {
			n++
		}
	}
	return n
}

// add notes a move. Only the most latest ones of a key are kept: where one that went would count, all of these do, so that there are enough of them at whatever time comes.
func (m moves) add(key uint64, now, most int) {
	l := append(m[key], now)
	slices.Sort(l) // now may be earlier than what is there
	m[key] = l[max(0, len(l)-most):]
}

// expire takes out what does not count at a time.
func (m moves) expire(now, window int) {
	for key := range m {
		m.leave(key, now, window)
	}
}

// leave lets a key that is there have those alone that count at a time.
func (m moves) leave(key uint64, now, window int) {
	left := slices.DeleteFunc(m[key], func(at int) bool { return !counts(at, now, window) })
	if len(left) == 0 {
		delete(m, key)
		return
	}
	m[key] = left
}

// copied are the same ones, in memory of their own.
func (m moves) copied() moves {
	out := make(moves, len(m))
	for key, l := range m {
		out[key] = slices.Clone(l)
	}
	return out
}

// counts tells whether a move at one time counts at another one, which may be an earlier one.
func counts(at, now, window int) bool { return now-at < window }
