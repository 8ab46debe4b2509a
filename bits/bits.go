// Package bits is layer 1: see shared/doc/01-bits.md.
package bits

import (
	"iter"

	"syntagm/api"
)

// size is how many numbers a set may have: from 0 to 63.
const size = 64

// Of is a set.
func Of(l ...int) api.Set {
	var s api.Set
	for _, n := range l {
		s |= bit(n)
	}
	return s
}

// List is its numbers, rising.
func List(s api.Set) []int {
	var l []int
	for n := range each(s) {
		l = append(l, n)
	}
	return l
}

// Has tells whether it has a number.
func Has(s api.Set, n int) bool { return s&bit(n) != 0 }

// With is a set with a number.
func With(s api.Set, n int) api.Set { return s | bit(n) }

// Without is a set without a number.
func Without(s api.Set, n int) api.Set { return s &^ bit(n) }

// Union is what is in one of both.
func Union(a, b api.Set) api.Set { return a | b }

// Meet is what is in both.
func Meet(a, b api.Set) api.Set { return a & b }

// Less is what is in the first one alone.
func Less(a, b api.Set) api.Set { return a &^ b }

// In tells whether all of one is in another one.
func In(a, b api.Set) bool { return Less(a, b) == 0 }

// Count is how many it has.
func Count(s api.Set) int {
	count := 0
	for range each(s) {
		count++
	}
	return count
}

// First is the least one.
func First(s api.Set) int {
	for n := range each(s) {
		return n
	}
	return -1
}

// bit is the set of a number alone; no bit of a number that no set can have.
func bit(n int) api.Set {
	if n < 0 || n >= size {
		return 0
	}
	return 1 << n
}

// each tells a set's numbers, rising.
func each(s api.Set) iter.Seq[int] {
	return func(yield func(int) bool) {
		for n := 0; s != 0; n, s = n+1, s>>1 {
			if s&1 == 1 && !yield(n) {
				return
			}
		}
	}
}
