package ages

import (
	"cmp"
	"slices"
)

// ordered has parts by rising keys, one a key.
type ordered[K cmp.Ordered, V any] struct {
	parts []part[K, V]
}

// part is a key with what stands for it.
type part[K cmp.Ordered, V any] struct {
	key   K
	value V
}

// size is how many there are.
func (o *ordered[K, V]) size() int { return len(o.parts) }

// find is where a key stands, or would, and whether it is there.
func (o *ordered[K, V]) find(key K) (int, bool) {
	return slices.BinarySearchFunc(o.parts, key, func(p part[K, V], k K) int { return cmp.Compare(p.key, k) })
}

// get is what stands for a key.
func (o *ordered[K, V]) get(key K) (V, bool) {
	i, is := o.find(key)
	if !is {
		var none V
		return none, false
	}
	return o.parts[i].value, true
}

// set lets a value stand for a key, whether one did or not.
func (o *ordered[K, V]) set(key K, value V) {
	i, is := o.find(key)
	if is {
		o.parts[i].value = value
		return
	}
	o.parts = slices.Insert(o.parts, i, part[K, V]{key, value})
}

// drop takes a key out, and tells whether it was there.
func (o *ordered[K, V]) drop(key K) bool {
	i, is := o.find(key)
	if is {
		o.parts = slices.Delete(o.parts, i, i+1)
	}
	return is
}

// dropAll takes out all whose value is one of those, and tells how many.
func (o *ordered[K, V]) dropAll(those func(V) bool) int {
	before := len(o.parts)
	o.parts = slices.DeleteFunc(o.parts, func(p part[K, V]) bool { return those(p.value) })
	return before - len(o.parts)
}

// first is the key of the value ahead of which no other one goes; of several the least key, and none of those that may not be taken.
func (o *ordered[K, V]) first(may func(V) bool, ahead func(a, b V) bool) (K, bool) {
	var best part[K, V]
	found := false
	for _, p := range o.parts {
		if may(p.value) && (!found || ahead(p.value, best.value)) {
			best, found = p, true
		}
	}
	return best.key, found
}

// copied is another one with the same parts, in memory of its own.
func (o *ordered[K, V]) copied() ordered[K, V] {
	return ordered[K, V]{slices.Clone(o.parts)}
}
