package timers_test

import (
	"math"
	"slices"
	"testing"

	"davit/api"
)

// overwrite changes a list, and what an append to it would reach.
func overwrite(l []int) {
	for i := range l[:cap(l)] {
		l[:cap(l)][i] = -7
	}
}

// numbered returns a pair with so many alarms at each of the ticks 0, 1 and 2.
func numbered(t *testing.T, size int) *pair {
	t.Helper()
	p := newPair(t)
	for name := range 3 * size {
		p.sets(name, name%3, api.OK)
	}
	return p
}

// What Take returned does not change with later calls, however many names it has.
func TestNamesStay(t *testing.T) {
	for size := range 34 {
		p := numbered(t, size)
		first := p.take(0)
		had := slices.Clone(first)
		for name := range size {
			p.sets(1000+name, 0, api.OK)
		}
		second := p.take(0)
		if !slices.Equal(first, had) {
			t.Fatalf("%s: %d has become %d", p.calls, had, first)
		}
		then := slices.Clone(second)
		p.take(1)
		p.set(5, 5)
		p.stop(2)
		p.take(9)
		for name := range 100 {
			p.sets(2000+name, 0, api.OK)
		}
		p.rest(atOnce)
		if !slices.Equal(first, had) || !slices.Equal(second, then) {
			t.Fatalf("%s: %d and %d have become %d and %d", p.calls, had, then, first, second)
		}
	}
}

// A change of what Take returned, up to the end of its room, is noticed by no later call.
func TestNamesMayBeOverwritten(t *testing.T) {
	for size := range 34 {
		for way := range ways {
			p := numbered(t, size)
			overwrite(p.take(0))
			p.look()
			for name := range size {
				p.sets(1000+name, 1, api.OK)
			}
			taken := p.take(1)
			p.set(5, 3)
			overwrite(taken)
			p.look()
			p.set(1, 2)
			p.stop(2)
			overwrite(taken)
			p.rest(way)
		}
	}
	for _, now := range []int{math.MinInt, -1, 0, 5, math.MaxInt} {
		p := full(t, 5)
		taken := p.take(now)
		for name := range 50 {
			p.set(name, 4)
		}
		overwrite(taken)
		p.look()
		p.rest(tickByTick)
	}
}

// What a Take returns that takes nothing is not kept either.
func TestNoNames(t *testing.T) {
	p := newPair(t)
	for range 3 {
		overwrite(append(p.take(0), 1, 2, 3)[:0])
		p.sets(1, 5, api.OK)
		overwrite(append(p.take(4), 1, 2, 3)[:0])
		p.look()
		p.takes(5, 1)
	}
	p.none()
}

// No two lists that Take returned share memory, of the same timers or of others.
func TestNamesShareNothing(t *testing.T) {
	n := numbers(6)
	for range 300 {
		one, other := newPair(t), newPair(t)
		var lists, had [][]int
		c := n.any()
		for range 60 {
			p := []*pair{one, other}[n.below(2)]
			if n.rarely(4) {
				names := p.take(c.now(p))
				lists, had = append(lists, names), append(had, slices.Clone(names))
				continue
			}
			c.call(p)
		}
		for i, l := range lists {
			if !slices.Equal(l, had[i]) {
				t.Fatalf("%d has become %d", had[i], l)
			}
			overwrite(l)
		}
		one.look()
		other.look()
		one.rest(n.below(ways))
		other.rest(n.below(ways))
		for _, l := range lists {
			for _, name := range l[:cap(l)] {
				if name != -7 {
					t.Fatalf("a later call has written %d to what Take had returned", name)
				}
			}
		}
	}
}

// Lists are overwritten at once, in the middle of any calls.
func TestAnyCallsWithNamesOverwritten(t *testing.T) {
	n := numbers(7)
	for range 500 {
		p, c := newPair(t), n.any()
		for range 80 {
			if n.rarely(4) {
				overwrite(p.take(c.now(p)))
				p.look()
				continue
			}
			c.call(p)
		}
		p.rest(n.below(ways))
	}
}
