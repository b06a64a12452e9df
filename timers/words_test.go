package timers_test

import (
	"fmt"
	"math"
	"slices"
	"testing"

	"davit/api"
	"davit/timers"
)

// slowAlarm is an alarm of the second timers.
type slowAlarm struct {
	name, at int
}

// slowTimers are timers by the chapter's words: a list of alarms, in the order in which they were set.
type slowTimers []slowAlarm

func (s *slowTimers) set(name, at int) api.Errno {
	var others slowTimers
	for _, a := range *s {
		if a.name != name {
			others = append(others, a)
		}
	}
	if len(others) == 100 {
		return api.ErrFull
	}
	*s = append(others, slowAlarm{name, at})
	return api.OK
}

func (s *slowTimers) stop(name int) api.Errno {
	for i, a := range *s {
		if a.name == name {
			*s = slices.Delete(slices.Clone(*s), i, i+1)
			return api.OK
		}
	}
	return api.ErrNone
}

// first returns the index of the alarm before which no other one is due, or -1 if there is none.
func (s *slowTimers) first() int {
	first := -1
	for i, a := range *s {
		if first < 0 || a.at < (*s)[first].at {
			first = i
		}
	}
	return first
}

func (s *slowTimers) next() (int, int, bool) {
	i := s.first()
	if i < 0 {
		return 0, 0, false
	}
	return (*s)[i].name, (*s)[i].at, true
}

func (s *slowTimers) take(now int) []int {
	var names []int
	for {
		i := s.first()
		if i < 0 || (*s)[i].at > now {
			return names
		}
		names = append(names, (*s)[i].name)
		*s = slices.Delete(slices.Clone(*s), i, i+1)
	}
}

// pair is timers and the second ones, of which the same is asked. Unless it is silent, what has become of the timers is asked behind each call.
type pair struct {
	t      *testing.T
	timers *timers.Timers
	slow   slowTimers
	silent bool
	calls  []string
}

func newPair(t *testing.T) *pair {
	t.Helper()
	p := &pair{t: t, timers: timers.New()}
	if p.timers == nil {
		t.Fatal("New() returned nil")
	}
	return p
}

// called remembers a call for messages, the last ones of many.
func (p *pair) called(form string, args ...any) {
	p.calls = append(p.calls, fmt.Sprintf(form, args...))
	if len(p.calls) > 140 {
		p.calls = append(p.calls[:0:0], p.calls[20:]...)
	}
}

// differs ends the test.
func (p *pair) differs(got, want any) {
	p.t.Helper()
	p.t.Fatalf("%s: %v, not %v", p.calls, got, want)
}

// look asks for what shows how the timers are, without a change.
func (p *pair) look() {
	p.t.Helper()
	if !p.silent {
		p.length()
		p.next()
	}
}

func (p *pair) set(name, at int) api.Errno {
	p.t.Helper()
	p.called("Set(%d, %d)", name, at)
	got, want := p.timers.Set(name, at), p.slow.set(name, at)
	if got != want {
		p.differs(got, want)
	}
	p.look()
	return got
}

// sets checks that Set returns this error.
func (p *pair) sets(name, at int, want api.Errno) {
	p.t.Helper()
	if got := p.set(name, at); got != want {
		p.differs(got, want)
	}
}

func (p *pair) stop(name int) api.Errno {
	p.t.Helper()
	p.called("Stop(%d)", name)
	got, want := p.timers.Stop(name), p.slow.stop(name)
	if got != want {
		p.differs(got, want)
	}
	p.look()
	return got
}

// stops checks that Stop returns this error.
func (p *pair) stops(name int, want api.Errno) {
	p.t.Helper()
	if got := p.stop(name); got != want {
		p.differs(got, want)
	}
}

func (p *pair) next() {
	p.t.Helper()
	name, at, is := p.timers.Next()
	if n, a, i := p.slow.next(); name != n || at != a || is != i {
		p.called("Next()")
		p.differs(fmt.Sprint(name, at, is), fmt.Sprint(n, a, i))
	}
}

// nexts checks that Next returns this alarm.
func (p *pair) nexts(name, at int) {
	p.t.Helper()
	p.next()
	if n, a, is := p.timers.Next(); n != name || a != at || !is {
		p.called("Next()")
		p.differs(fmt.Sprint(n, a, is), fmt.Sprint(name, at, true))
	}
}

func (p *pair) take(now int) []int {
	p.t.Helper()
	p.called("Take(%d)", now)
	got, want := p.timers.Take(now), p.slow.take(now)
	if !slices.Equal(got, want) {
		p.differs(got, want)
	}
	p.look()
	return got
}

// takes checks that Take returns these names.
func (p *pair) takes(now int, want ...int) {
	p.t.Helper()
	if got := p.take(now); !slices.Equal(got, want) {
		p.differs(got, want)
	}
}

func (p *pair) length() {
	p.t.Helper()
	if got := p.timers.Len(); got != len(p.slow) {
		p.called("Len()")
		p.differs(got, len(p.slow))
	}
}

// lengths checks that Len returns this.
func (p *pair) lengths(want int) {
	p.t.Helper()
	p.length()
	if got := p.timers.Len(); got != want {
		p.called("Len()")
		p.differs(got, want)
	}
}

// none checks that there is no alarm.
func (p *pair) none() {
	p.t.Helper()
	p.lengths(0)
	if name, at, is := p.timers.Next(); name != 0 || at != 0 || is {
		p.called("Next()")
		p.differs(fmt.Sprint(name, at, is), fmt.Sprint(0, 0, false))
	}
	p.takes(math.MaxInt)
}

// The ways in which the alarms that there are can be removed.
const (
	atOnce = iota
	tickByTick
	oneByOne
	ways
)

// rest checks all alarms that there are, and their order, as it removes them in this way.
func (p *pair) rest(way int) {
	p.t.Helper()
	p.length()
	for len(p.slow) > 0 {
		name, at, _ := p.slow.next()
		p.nexts(name, at)
		switch way {
		case atOnce:
			p.take(math.MaxInt)
		case tickByTick:
			p.take(at)
		case oneByOne:
			p.stops(name, api.OK)
		}
	}
	p.none()
}

// has returns a pair with these alarms, which are set in this order.
func has(t *testing.T, alarms ...slowAlarm) *pair {
	t.Helper()
	p := newPair(t)
	for _, a := range alarms {
		p.sets(a.name, a.at, api.OK)
	}
	return p
}
