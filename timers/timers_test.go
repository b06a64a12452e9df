package timers_test

import (
	"math"
	"slices"
	"testing"

	"davit/api"
	"davit/timers"
)

// The calls have exactly these signatures.
var (
	_ func() *timers.Timers                    = timers.New
	_ func(*timers.Timers, int, int) api.Errno = (*timers.Timers).Set
	_ func(*timers.Timers, int) api.Errno      = (*timers.Timers).Stop
	_ func(*timers.Timers) (int, int, bool)    = (*timers.Timers).Next
	_ func(*timers.Timers, int) []int          = (*timers.Timers).Take
	_ func(*timers.Timers) int                 = (*timers.Timers).Len
)

// ends are numbers in ascending order, those at the ends among them, and such whose lower halves are small.
var ends = []int{math.MinInt, math.MinInt + 1, math.MinInt + 3, -1<<32 - 1, -1 << 32, -1<<32 + 3, math.MinInt32, -100, -2, -1, 0, 1, 2, 3, 100, 255, 256, 257, 65535, 65536, 65537, math.MaxInt32, 1 << 32, 1<<32 + 1, 1<<32 + 3, math.MaxInt - 3, math.MaxInt - 1, math.MaxInt}

// others are names that none of the names from 0 to 99 are.
var others = []int{math.MinInt, math.MinInt + 1, -1 << 32, -1<<32 + 3, -257, -256, -100, -99, -1, 100, 101, 199, 255, 256, 257, 65536, 65537, 1 << 32, 1<<32 + 1, 1<<32 + 99, math.MaxInt - 1, math.MaxInt}

// full returns timers with 100 alarms, whose names are 0 to 99, with these ticks in turn.
func full(t *testing.T, ticks ...int) *pair {
	t.Helper()
	p := newPair(t)
	for name := range 100 {
		p.sets(name, ticks[name%len(ticks)], api.OK)
	}
	p.lengths(100)
	return p
}

func TestExample(t *testing.T) {
	p := newPair(t)
	p.sets(7, 5, api.OK)
	p.sets(8, 4, api.OK)
	p.sets(7, 3, api.OK)
	p.takes(4, 7, 8)
	p.none()
}

func TestOrdinaryAlarms(t *testing.T) {
	p := newPair(t)
	p.sets(1, 10, api.OK)
	p.sets(2, 20, api.OK)
	p.sets(3, 15, api.OK)
	p.nexts(1, 10)
	p.takes(9)
	p.takes(10, 1)
	p.nexts(3, 15)
	p.sets(4, 15, api.OK)
	p.sets(5, 12, api.OK)
	p.stops(2, api.OK)
	p.stops(1, api.ErrNone)
	p.lengths(3)
	p.nexts(5, 12)
	p.takes(15, 5, 3, 4)
	p.none()
	p.sets(1, 1, api.OK)
	p.takes(0)
	p.takes(1, 1)
	p.none()
}

// P19.1: New returns timers without alarms, of which any may then be set.
func TestNew(t *testing.T) {
	for _, x := range ends {
		p := newPair(t)
		p.none()
		p.takes(x)
		p.stops(x, api.ErrNone)
		p.none()
		p.sets(x, x, api.OK)
		p.lengths(1)
		p.nexts(x, x)
		p.takes(x, x)
		p.none()
	}
}

// P19.1: of any name and any tick there may be an alarm, which is due at this tick and no earlier.
func TestOneAlarm(t *testing.T) {
	for _, name := range ends {
		for i, at := range ends {
			for j, now := range ends {
				p := has(t, slowAlarm{name, at})
				p.lengths(1)
				p.nexts(name, at)
				if j < i {
					p.takes(now)
					p.nexts(name, at)
				} else {
					p.takes(now, name)
					p.none()
				}
			}
			p := has(t, slowAlarm{name, at})
			p.stops(name, api.OK)
			p.none()
			p.stops(name, api.ErrNone)
		}
	}
}

// Names are the same if they are equal, and else they are not.
func TestNames(t *testing.T) {
	for i, name := range ends {
		for j, other := range ends {
			p := has(t, slowAlarm{name, 5}, slowAlarm{other, 6})
			if i == j {
				p.lengths(1)
				p.takes(6, name)
				continue
			}
			p.lengths(2)
			p.nexts(name, 5)
			p.stops(other, api.OK)
			p.nexts(name, 5)
			p.stops(other, api.ErrNone)
			p.sets(other, 5, api.OK)
			p.takes(5, name, other)
			p.none()
		}
	}
	p := newPair(t)
	for _, name := range ends {
		p.sets(name, 0, api.OK)
	}
	p.takes(0, ends...)
}

// P19.2: of two alarms that with the smaller tick is due before the other one, whichever was set first.
func TestTicks(t *testing.T) {
	for i, low := range ends {
		for _, high := range ends[i+1:] {
			for _, order := range [][]slowAlarm{{{1, low}, {2, high}}, {{2, high}, {1, low}}} {
				has(t, order...).takes(math.MaxInt, 1, 2)
				has(t, order...).takes(high, 1, 2)
				p := has(t, order...)
				p.nexts(1, low)
				p.takes(high-1, 1)
				p.nexts(2, high)
				p.rest(oneByOne)
				p = has(t, order...)
				p.takes(low, 1)
				p.takes(high, 2)
			}
		}
	}
	for _, at := range ends {
		for _, order := range [][]int{{1, 2, 3}, {3, 2, 1}, {2, 3, 1}, {0, -1, math.MaxInt, math.MinInt}} {
			p := newPair(t)
			for _, name := range order {
				p.sets(name, at, api.OK)
			}
			p.nexts(order[0], at)
			p.takes(at, order...)
		}
	}
	p := newPair(t)
	for i := range ends {
		p.sets(i, ends[len(ends)-1-i], api.OK)
	}
	for i, at := range ends {
		p.takes(at, len(ends)-1-i)
	}
	p.none()
}

// P19.1: an alarm that is set again is due at its new tick, and counts as set then.
func TestSetAgain(t *testing.T) {
	for _, x := range []struct {
		again slowAlarm
		want  []int
	}{
		{slowAlarm{1, 5}, []int{2, 3, 1}}, {slowAlarm{2, 5}, []int{1, 3, 2}}, {slowAlarm{3, 5}, []int{1, 2, 3}},
		{slowAlarm{1, 4}, []int{1, 2, 3}}, {slowAlarm{2, 4}, []int{2, 1, 3}}, {slowAlarm{3, 4}, []int{3, 1, 2}},
		{slowAlarm{1, 6}, []int{2, 3, 1}}, {slowAlarm{2, 6}, []int{1, 3, 2}}, {slowAlarm{3, 6}, []int{1, 2, 3}},
		{slowAlarm{1, math.MinInt}, []int{1, 2, 3}}, {slowAlarm{2, math.MinInt}, []int{2, 1, 3}}, {slowAlarm{3, math.MaxInt}, []int{1, 2, 3}},
	} {
		for _, times := range []int{1, 2, 3} {
			p := has(t, slowAlarm{1, 5}, slowAlarm{2, 5}, slowAlarm{3, 5})
			for range times {
				p.sets(x.again.name, x.again.at, api.OK)
			}
			p.lengths(3)
			p.takes(math.MaxInt, x.want...)
		}
	}
	p := has(t, slowAlarm{1, 5}, slowAlarm{2, 5}, slowAlarm{3, 4})
	p.sets(3, 5, api.OK)
	p.sets(1, 6, api.OK)
	p.sets(1, 5, api.OK)
	p.takes(4)
	p.takes(5, 2, 3, 1)
}

// The tick that an alarm had before it was set again does not matter any more.
func TestTickOfBefore(t *testing.T) {
	p := has(t, slowAlarm{1, 5})
	p.sets(1, 9, api.OK)
	p.takes(5)
	p.takes(8)
	p.takes(9, 1)
	p.takes(math.MaxInt)
	p.sets(1, 9, api.OK)
	p.sets(1, 5, api.OK)
	p.takes(5, 1)
	p.takes(9)
	p.none()
}

// An alarm that is set again behind Stop or Take counts as set then.
func TestSetAgainBehindStopAndTake(t *testing.T) {
	p := has(t, slowAlarm{1, 5}, slowAlarm{2, 5}, slowAlarm{3, 5})
	p.stops(1, api.OK)
	p.sets(1, 5, api.OK)
	p.takes(5, 2, 3, 1)
	p = has(t, slowAlarm{1, 5}, slowAlarm{2, 6}, slowAlarm{3, 6})
	p.takes(5, 1)
	p.sets(1, 6, api.OK)
	p.takes(6, 2, 3, 1)
	p = has(t, slowAlarm{1, 1}, slowAlarm{2, 1}, slowAlarm{3, 9}, slowAlarm{4, 9})
	p.takes(1, 1, 2)
	p.sets(5, 9, api.OK)
	p.sets(3, 9, api.OK)
	p.sets(1, 9, api.OK)
	p.takes(9, 4, 5, 3, 1)
}

// P19.1: where there are 100 alarms with other names, Set returns ErrFull and changes nothing, for any name and tick.
func TestFull(t *testing.T) {
	for _, ticks := range [][]int{{5}, {5, 4, 3}, {0, 1, 2, 3, 4, 5, 6, 7, 8, 9}, {-1, 0}, {math.MaxInt, math.MinInt}} {
		for way := range ways {
			p := full(t, ticks...)
			for _, name := range others {
				for _, at := range append(slices.Clone(ends), ticks...) {
					p.sets(name, at, api.ErrFull)
				}
				p.stops(name, api.ErrNone)
			}
			p.lengths(100)
			p.rest(way)
			for _, name := range others {
				p.sets(name, 5, api.OK)
			}
			p.rest(way)
		}
	}
}

// There is room for 100 alarms, and for no more, whichever names they have.
func TestRoom(t *testing.T) {
	for _, name := range []func(i int) int{
		func(i int) int { return i },
		func(i int) int { return -i },
		func(i int) int { return i << 32 },
		func(i int) int { return math.MaxInt - i },
		func(i int) int { return math.MinInt + i*256 },
	} {
		p := newPair(t)
		for i := range 105 {
			p.lengths(min(i, 100))
			if i < 100 {
				p.sets(name(i), i*7%10, api.OK)
			} else {
				p.sets(name(i), i*7%10, api.ErrFull)
			}
		}
		for i := 100; i < 105; i++ {
			p.stops(name(i), api.ErrNone)
		}
		p.rest(tickByTick)
	}
}

// Where there are 100 alarms, each one of them can be set again.
func TestSetAgainWhereItIsFull(t *testing.T) {
	for name := range 100 {
		for _, at := range []int{math.MinInt, -1, 0, 4, 5, 6, 9, math.MaxInt} {
			p := full(t, 5, 0, 9)
			p.sets(name, at, api.OK)
			p.sets(100, at, api.ErrFull)
			p.lengths(100)
			p.rest(atOnce)
		}
	}
	p := full(t, 5)
	for i := range 300 {
		p.sets(i*37%100, 5-i%2, api.OK)
		p.sets(-1-i, 0, api.ErrFull)
	}
	p.rest(tickByTick)
}

// As many alarms as were removed can be set, and no more.
func TestRoomThatBecomesFree(t *testing.T) {
	for _, free := range []int{1, 2, 50, 99, 100} {
		p := full(t, 5)
		for name := range free {
			p.stops(name, api.OK)
		}
		for i := range free {
			p.sets(1000+i, 5, api.OK)
		}
		p.sets(0, 5, api.ErrFull)
		p.rest(atOnce)
		p = newPair(t)
		for name := range 100 {
			p.sets(name, max(name, free-1), api.OK)
		}
		if taken := p.take(free - 1); len(taken) != free {
			t.Fatalf("%d taken", len(taken))
		}
		for i := range free {
			p.sets(1000+i, 5, api.OK)
		}
		p.sets(0, 5, api.ErrFull)
		p.sets(1000+free, 0, api.ErrFull)
		p.rest(oneByOne)
	}
}

// Alarms that were stopped, taken or set again take up no room, however many they were.
func TestManyAlarms(t *testing.T) {
	p := newPair(t)
	for i := range 1000 {
		p.sets(1, i, api.OK)
		p.sets(2, -i, api.OK)
	}
	p.lengths(2)
	for i := range 1000 {
		p.sets(3+i, 3, api.OK)
		p.stops(3+i, api.OK)
		p.sets(-i, -2000, api.OK)
		p.takes(-2000, -i)
		p.stops(-i-1, api.ErrNone)
	}
	p.takes(math.MaxInt, 2, 1)
	for i := range 30 {
		for name := range 100 {
			p.sets(name, i, api.OK)
		}
		p.sets(100, i, api.ErrFull)
		p.take(i)
		p.none()
	}
}

// Which alarm was set earlier counts also where there were many calls in between.
func TestOrderBehindManyCalls(t *testing.T) {
	p := newPair(t)
	p.silent = true
	l := p.timers
	p.sets(1, 5, api.OK)
	p.sets(3, 5, api.OK)
	for i := range 140000 {
		if l.Set(2, 5) != api.OK {
			t.Fatalf("Set fails at the call %d", i)
		}
		if name, at, is := l.Next(); name != 1 || at != 5 || !is {
			t.Fatalf("Next() behind %d calls: %d, %d, %t", i, name, at, is)
		}
	}
	p.sets(2, 5, api.OK)
	p.sets(1, 5, api.OK)
	p.takes(5, 3, 2, 1)
	p.sets(1, 5, api.OK)
	for i := range 70000 {
		if l.Set(2, 4) != api.OK || !slices.Equal(l.Take(4), []int{2}) || l.Set(3, 5) != api.OK || l.Stop(3) != api.OK || l.Set(4, 5) != api.OK {
			t.Fatalf("the calls %d", i)
		}
		if name, at, is := l.Next(); name != 1 || at != 5 || !is || l.Len() != 2 {
			t.Fatalf("Next() behind the calls %d: %d, %d, %t", i, name, at, is)
		}
	}
	p.sets(4, 5, api.OK)
	p.rest(atOnce)
}

// orders returns the ticks of this number of alarms, in several orders.
func orders(size int) [][]int {
	var up, down, same, pairs, mixed []int
	for i := range size {
		up, down, same = append(up, i), append(down, size-i), append(same, 5)
		pairs, mixed = append(pairs, i/2), append(mixed, i*37%(size+1))
	}
	return [][]int{up, down, same, pairs, mixed}
}

// P19.1: Stop removes the alarm with this name and no other one, whichever place it has among the others.
func TestStopAtEachPlace(t *testing.T) {
	for size := range 41 {
		for _, ticks := range orders(size) {
			for name := range size {
				p := newPair(t)
				p.silent = name%2 == 0
				for other, at := range ticks {
					p.sets(other, at, api.OK)
				}
				p.stops(size, api.ErrNone)
				p.stops(-1, api.ErrNone)
				p.stops(name, api.OK)
				p.stops(name, api.ErrNone)
				p.lengths(size - 1)
				p.rest(name % ways)
			}
		}
	}
}

// An alarm at each place is set again at each tick: ahead of all others, between them, with one of them, and behind all.
func TestSetAgainAtEachPlace(t *testing.T) {
	for _, size := range []int{1, 2, 3, 4, 5, 7, 8, 12, 20} {
		for _, ticks := range orders(size) {
			for name := range size {
				for at := -1; at <= size+2; at++ {
					p := newPair(t)
					p.silent = at%2 == 0
					for other, tick := range ticks {
						p.sets(other, tick, api.OK)
					}
					p.sets(name, at, api.OK)
					p.lengths(size)
					p.rest(name % ways)
				}
			}
		}
	}
}

// All alarms are stopped, in several orders.
func TestStopAll(t *testing.T) {
	for _, size := range []int{1, 2, 3, 10, 50, 100} {
		for _, ticks := range orders(size) {
			for _, step := range []int{1, 3, 7, 9, 11, 99} {
				p := newPair(t)
				for name, at := range ticks {
					p.sets(name, at, api.OK)
				}
				for i := range size {
					p.stop(i * step % size)
				}
				p.rest(atOnce)
			}
		}
	}
}

// Stop returns ErrNone for a name that was stopped or taken before, and changes nothing then.
func TestStopOfNone(t *testing.T) {
	for _, name := range ends {
		p := newPair(t)
		p.stops(name, api.ErrNone)
		p.sets(name, 5, api.OK)
		p.stops(name, api.OK)
		p.stops(name, api.ErrNone)
		p.sets(name, 5, api.OK)
		p.takes(5, name)
		p.stops(name, api.ErrNone)
		p.sets(name, 5, api.OK)
		p.sets(name, 6, api.OK)
		p.stops(name, api.OK)
		p.stops(name, api.ErrNone)
		p.none()
		p.sets(9, 5, api.OK)
		p.sets(name, 4, api.OK)
		p.takes(4, name)
		p.stops(name, api.ErrNone)
		p.nexts(9, 5)
		p.takes(5, 9)
	}
}

// P19.2: Next changes nothing, however often it is called.
func TestNextChangesNothing(t *testing.T) {
	for _, size := range []int{0, 1, 2, 3, 10, 99, 100} {
		for _, ticks := range orders(size) {
			p := newPair(t)
			for name, at := range ticks {
				p.sets(name, at, api.OK)
				for range 5 {
					p.next()
				}
			}
			p.lengths(size)
			for range 300 {
				p.next()
			}
			p.lengths(size)
			p.rest(tickByTick)
			for range 300 {
				p.none()
			}
		}
	}
}

// P19.2: Take removes the alarms whose tick is at most now, and these alone, for each now.
func TestTakeAtEachTick(t *testing.T) {
	for _, size := range []int{1, 2, 3, 10, 33, 99, 100} {
		for _, ticks := range orders(size) {
			for _, now := range append([]int{-1, 0, 1, 2, 3, 4, 5, 6, size/2 - 1, size / 2, size - 2, size - 1, size, size + 1}, ends...) {
				p := newPair(t)
				p.silent = now%2 == 0
				for name, at := range ticks {
					p.sets(name, 2*at, api.OK)
				}
				p.take(now)
				p.takes(now)
				p.next()
				p.length()
				p.rest(tickByTick)
			}
		}
	}
}

// Time may go backwards: Take with a smaller now takes what is due by it.
func TestTakeBackwards(t *testing.T) {
	p := has(t, slowAlarm{1, 5}, slowAlarm{2, 9})
	p.takes(7, 1)
	p.takes(3)
	p.sets(3, 3, api.OK)
	p.sets(4, 6, api.OK)
	p.takes(3, 3)
	p.takes(5)
	p.takes(math.MinInt)
	p.takes(math.MaxInt, 4, 2)
	p.sets(5, math.MinInt, api.OK)
	p.takes(math.MinInt, 5)
	p.none()
}

// Many alarms of one tick are taken in the order in which they were set.
func TestTakeOfOneTick(t *testing.T) {
	for _, size := range []int{2, 3, 4, 5, 8, 13, 64, 99, 100} {
		for _, step := range []int{1, 37, 99} {
			for _, at := range []int{math.MinInt, -1, 0, 5, math.MaxInt} {
				p := newPair(t)
				p.silent = true
				var want []int
				for i := range size {
					name := (i + 1) * step % 101
					want = append(want, name)
					p.sets(name, at, api.OK)
				}
				for _, again := range []int{0, size / 2, size - 1} {
					name := want[again]
					p.sets(name, at, api.OK)
					want = append(slices.Delete(want, again, again+1), name)
				}
				if at > math.MinInt {
					p.takes(at - 1)
				}
				p.nexts(want[0], at)
				p.takes(at, want...)
				p.none()
			}
		}
	}
}

// Nil timers behave like timers without alarms, except that nothing can be set.
func TestNoTimers(t *testing.T) {
	var none *timers.Timers
	for range 2 {
		for _, x := range ends {
			for _, at := range ends {
				if err := none.Set(x, at); err != api.ErrFull {
					t.Errorf("Set(%d, %d): %d", x, at, err)
				}
			}
			if err := none.Stop(x); err != api.ErrNone {
				t.Errorf("Stop(%d): %d", x, err)
			}
			if l := none.Take(x); len(l) > 0 {
				t.Errorf("Take(%d): %d", x, l)
			}
			if name, at, is := none.Next(); name != 0 || at != 0 || is {
				t.Errorf("Next(): %d, %d, %t", name, at, is)
			}
			if n := none.Len(); n != 0 {
				t.Errorf("Len(): %d", n)
			}
		}
	}
}

// The calls of timers may be kept as values, which act on them.
func TestCallsAsValues(t *testing.T) {
	x, other := timers.New(), timers.New()
	set, stop, next, take, length := x.Set, x.Stop, x.Next, x.Take, x.Len
	x = other
	if set(7, 5) != api.OK || set(8, 4) != api.OK || set(9, 9) != api.OK || set(7, 3) != api.OK || length() != 3 || stop(9) != api.OK || stop(9) != api.ErrNone {
		t.Error("the calls do not act on their timers")
	}
	if name, at, is := next(); name != 7 || at != 3 || !is {
		t.Errorf("Next(): %d, %d, %t", name, at, is)
	}
	if l := take(4); !slices.Equal(l, []int{7, 8}) || length() != 0 {
		t.Errorf("Take(4): %d", l)
	}
	if set(1, 1) != api.OK || x.Len() != 0 || other.Stop(1) != api.ErrNone {
		t.Error("the calls act on other timers")
	}
	var none *timers.Timers
	set, stop, next, take, length = none.Set, none.Stop, none.Next, none.Take, none.Len
	if name, at, is := next(); set(0, 0) != api.ErrFull || stop(0) != api.ErrNone || name != 0 || at != 0 || is || len(take(9)) > 0 || length() != 0 {
		t.Error("the calls of nil timers")
	}
}
