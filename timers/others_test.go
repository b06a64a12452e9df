package timers_test

import (
	"math"
	"slices"
	"testing"

	"davit/api"
	"davit/timers"
)

// numbers yields the same numbers in every test run.
type numbers uint64

func (n *numbers) below(most int) int {
	*n = *n*6364136223846793005 + 1442695040888963407
	return int(uint32(*n>>33)) % most
}

// rarely reports true once in so many times.
func (n *numbers) rarely(times int) bool {
	return n.below(times) == 0
}

// end returns any of the ends.
func (n *numbers) end() int {
	return ends[n.below(len(ends))]
}

// caller makes calls with names and ticks out of so many small numbers, and sometimes any others.
type caller struct {
	*numbers
	names, ticks int
}

// any returns a caller with few or many names and ticks.
func (n *numbers) any() caller {
	return caller{n, []int{1, 3, 10, 90, 100, 120}[n.below(6)], []int{1, 3, 20, 1000}[n.below(4)]}
}

func (c caller) name() int {
	if c.rarely(20) {
		return c.end()
	}
	return c.below(c.names)
}

func (c caller) tick() int {
	if c.rarely(20) {
		return c.end()
	}
	return c.below(c.ticks) - c.ticks/3
}

// now returns a tick up to which few alarms are due, sometimes any.
func (c caller) now(p *pair) int {
	if _, at, is := p.slow.next(); is && !c.rarely(4) {
		return max(at, at+c.below(5)-1)
	}
	return c.tick()
}

// fill sets alarms until there are at least so many.
func (c caller) fill(p *pair, least int) {
	for len(p.slow) < least {
		p.set(c.below(1000), c.tick())
	}
}

// call lets a pair be asked anything.
func (c caller) call(p *pair) {
	switch c.below(12) {
	case 0, 1, 2, 3, 4:
		p.set(c.name(), c.tick())
	case 5:
		if len(p.slow) > 0 {
			p.set(p.slow[c.below(len(p.slow))].name, c.tick())
		}
	case 6:
		p.stop(c.name())
	case 7:
		if len(p.slow) > 0 {
			p.stop(p.slow[c.below(len(p.slow))].name)
		}
	case 8, 9:
		p.take(c.now(p))
	case 10:
		p.next()
	default:
		p.length()
	}
}

// isOften fails if a thing was seen too rarely.
func isOften(t *testing.T, times, least int, what string) {
	t.Helper()
	if times < least {
		t.Errorf("only %d %s", times, what)
	}
}

// Any sequence of calls comes to what the second timers come to.
func TestAnyCalls(t *testing.T) {
	n := numbers(1)
	fulls, manies, empties := 0, 0, 0
	for range 3000 {
		p, c := newPair(t), n.any()
		p.silent = n.rarely(2)
		if n.rarely(3) {
			c.fill(p, []int{10, 50, 98, 99, 100}[n.below(5)])
		}
		for range n.below(200) {
			c.call(p)
			if len(p.slow) == 100 {
				fulls++
			}
			if len(p.slow) > 10 {
				manies++
			}
			if len(p.slow) == 0 {
				empties++
			}
		}
		p.rest(n.below(ways))
	}
	isOften(t, fulls, 1000, "calls of full timers")
	isOften(t, manies, 10000, "calls of timers with many alarms")
	isOften(t, empties, 1000, "calls of timers without alarms")
}

// One pair of timers is used for long.
func TestManyCalls(t *testing.T) {
	n := numbers(2)
	for _, c := range []caller{{&n, 5, 3}, {&n, 120, 3}, {&n, 200, 1000}} {
		p := newPair(t)
		p.silent = true
		for range 100000 {
			c.call(p)
		}
		p.rest(oneByOne)
	}
}

// All short sequences of some calls.
func TestShortSequences(t *testing.T) {
	calls := []func(p *pair){
		func(p *pair) { p.set(1, 5) },
		func(p *pair) { p.set(2, 5) },
		func(p *pair) { p.set(3, 5) },
		func(p *pair) { p.set(1, 4) },
		func(p *pair) { p.set(2, 6) },
		func(p *pair) { p.stop(1) },
		func(p *pair) { p.stop(2) },
		func(p *pair) { p.take(4) },
		func(p *pair) { p.take(5) },
	}
	total := 1
	for range 5 {
		total *= len(calls)
	}
	for i := range total {
		p := newPair(t)
		p.silent = i%2 == 0
		for rest := i; rest > 0; rest /= len(calls) {
			calls[rest%len(calls)](p)
		}
		p.rest(i / 2 % ways)
	}
}

// All orders of a few alarms, and all ticks of them.
func TestAllOrders(t *testing.T) {
	for _, order := range [][]int{{1, 2, 3, 4, 5, 6}, {6, 5, 4, 3, 2, 1}, {3, 6, 1, 5, 2, 4}} {
		for i := range 3 * 3 * 3 * 3 * 3 * 3 {
			p, ticks := newPair(t), i
			for _, name := range order {
				p.sets(name, ticks%3, api.OK)
				ticks /= 3
			}
			p.rest(i % ways)
		}
	}
}

// P19.3: each alarm that was set, and neither stopped nor set again, is returned once, by the first Take at its tick or later.
func TestEachAlarmIsReturnedOnce(t *testing.T) {
	n := numbers(3)
	returned := 0
	for range 1000 {
		l, due := timers.New(), map[int]int{}
		now := -10
		for range n.below(150) {
			name, at := n.below(130), now+n.below(40)-10
			switch n.below(5) {
			case 0:
				if _, is := due[name]; is != (l.Stop(name) == api.OK) {
					t.Fatalf("Stop(%d), with the alarms %d", name, due)
				}
				delete(due, name)
			case 1:
				now += n.below(8)
				names := l.Take(now)
				for _, name := range names {
					if at, is := due[name]; !is || at > now {
						t.Fatalf("Take(%d) returned %d, with the alarms %d", now, names, due)
					}
					delete(due, name)
				}
				for name, at := range due {
					if at <= now {
						t.Fatalf("Take(%d) returned %d, without %d, which is due at %d", now, names, name, at)
					}
				}
				returned += len(names)
			default:
				if _, is := due[name]; is || len(due) < 100 {
					due[name] = at
				}
				l.Set(name, at)
			}
		}
		names := l.Take(math.MaxInt)
		if len(names) != len(due) {
			t.Fatalf("there were returned %d of the alarms %d", names, due)
		}
		for _, name := range names {
			if _, is := due[name]; !is {
				t.Fatalf("there were returned %d of the alarms %d", names, due)
			}
			delete(due, name)
		}
	}
	isOften(t, returned, 10000, "alarms that were returned while others stayed")
}

// Two timers do not touch each other, whatever is asked of them.
func TestTwoTimers(t *testing.T) {
	n := numbers(4)
	for range 500 {
		c := n.any()
		one, other := newPair(t), newPair(t)
		if n.rarely(3) {
			c.fill(one, 95)
		}
		for range 100 {
			c.call([]*pair{one, other}[n.below(2)])
		}
		one.look()
		other.look()
		one.rest(n.below(ways))
		other.look()
		other.rest(n.below(ways))
	}
	one, other := full(t, 5), newPair(t)
	other.none()
	other.stops(1, api.ErrNone)
	for name := range 100 {
		other.sets(-name-1, 4, api.OK)
	}
	one.sets(100, 5, api.ErrFull)
	other.sets(100, 5, api.ErrFull)
	one.stops(-1, api.ErrNone)
	other.rest(oneByOne)
	one.lengths(100)
	one.sets(100, 5, api.ErrFull)
	one.rest(atOnce)
}

// Many timers, each one with an alarm of the same name at another tick.
func TestManyTimers(t *testing.T) {
	var all []*timers.Timers
	for i := range 300 {
		all = append(all, timers.New())
		all[i].Set(7, i)
	}
	for i, x := range all {
		if name, at, is := x.Next(); name != 7 || at != i || !is || x.Len() != 1 {
			t.Errorf("the timers %d have %d at %d", i, name, at)
		}
		if got := x.Take(i); !slices.Equal(got, []int{7}) || x.Len() != 0 {
			t.Errorf("the timers %d return %d", i, got)
		}
	}
}

// What was asked of other timers does not matter.
func TestOtherTimersDoNotMatter(t *testing.T) {
	ask := func() []int {
		x := timers.New()
		for i := range 60 {
			x.Set(i*7%50, i*11%4)
		}
		x.Stop(20)
		return append(append(x.Take(1), -1), x.Take(9)...)
	}
	want := ask()
	n := numbers(5)
	for range 200 {
		p, c := newPair(t), n.any()
		for range 30 {
			c.call(p)
		}
		if got := ask(); !slices.Equal(got, want) {
			t.Fatalf("%d; behind calls of other timers %d", want, got)
		}
	}
}

// Timers at the same time.
func TestTimersAtTheSameTime(t *testing.T) {
	results := make(chan bool)
	for range 8 {
		go func() {
			fine := true
			for range 200 {
				x := timers.New()
				for i := range 100 {
					fine = fine && x.Set(i, i%3) == api.OK
				}
				l := x.Take(0)
				fine = fine && len(l) == 34 && l[0] == 0 && l[33] == 99 && x.Stop(4) == api.OK && x.Len() == 65
			}
			results <- fine
		}()
	}
	for range 8 {
		if !<-results {
			t.Error("timers did not do as they were asked")
		}
	}
}
