package plan

import (
	"iter"
	"math/bits"
	"slices"
)

// mask is a set of orders: its bit i tells whether it has the order with the index i.
type mask uint

func maskOf(set []int) mask {
	var m mask
	for _, i := range set {
		m |= 1 << i
	}
	return m
}

func (m mask) has(i int) bool { return m>>i&1 == 1 }

func (m mask) without(i int) mask { return m &^ (1 << i) }

func (m mask) isWithin(other mask) bool { return m&^other == 0 }

// indices yields the indices of the orders of a set, rising.
func (m mask) indices() iter.Seq[int] {
	return func(yield func(int) bool) {
		for i := range bits.Len(uint(m)) {
			if m.has(i) && !yield(i) {
				return
			}
		}
	}
}

func (m mask) list() []int { return slices.Collect(m.indices()) }

// size returns how many orders a set has.
func (m mask) size() int {
	many := 0
	for range m.indices() {
		many++
	}
	return many
}

// within yields the sets of so many orders of a set, the first one (R6) first.
func within(set mask, many int) iter.Seq[mask] {
	return func(yield func(mask) bool) {
		var choose func(some mask, from int) bool
		choose = func(some mask, from int) bool {
			if some.size() == many {
				return yield(some)
			}
			for i := range set.indices() {
				if i >= from && !choose(some|1<<i, i+1) {
					return false
				}
			}
			return true
		}
		choose(0, 0)
	}
}
