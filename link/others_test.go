package link_test

import (
	"math"
	"strings"
	"testing"

	"davit/api"
	"davit/link"
	"davit/peer"
)

// numbers yields the same numbers in every test run.
type numbers uint64

func (n *numbers) below(most int) int {
	*n = *n*6364136223846793005 + 1442695040888963407
	return int(uint32(*n>>33)) % most
}

// rarely reports true once in so many times.
func (n *numbers) rarely(times int) bool {
	return n.below(times) == 0
}

// one returns one of some numbers.
func (n *numbers) one(l ...int) int {
	return l[n.below(len(l))]
}

// any returns any number, mostly a small one.
func (n *numbers) any() int {
	if n.rarely(6) {
		return ends[n.below(len(ends))]
	}
	return n.below(8) - 1
}

// text returns this number of any bytes; sometimes nil, if it is 0.
func (n *numbers) text(size int) []byte {
	if size == 0 && n.rarely(2) {
		return nil
	}
	b := make([]byte, size)
	for i := range b {
		b[i] = byte(n.below(256))
	}
	return b
}

// plain returns this number of any bytes but 10 and 21.
func (n *numbers) plain(size int) []byte {
	b := n.text(size)
	for i := range b {
		if b[i] == 10 || b[i] == 21 {
			b[i] = 'a'
		}
	}
	return b
}

// size returns one of the sizes at which something changes, mostly a small one.
func (n *numbers) size() int {
	if n.rarely(8) {
		return n.one(298, 299, 300, 301, 302, 600)
	}
	return n.below(5)
}

// line returns a line, mostly one of a few short ones, so that rules have it.
func (n *numbers) line() []byte {
	switch n.below(12) {
	case 0:
		return n.text(n.size())
	case 1:
		return []byte(strings.Repeat("ab", 160))[:n.one(298, 299, 300, 301)]
	case 2:
		return []byte([]string{"a\n", "\x15", "\n", "a\x15b", "b\na"}[n.below(5)])
	case 3:
		return nil
	}
	return []byte([]string{"a", "b", "ab", "ba", "aab", ""}[n.below(6)])
}

// state returns any state, mostly one of a few, so that rules lead to each other.
func (n *numbers) state() int {
	if n.rarely(8) {
		return n.one(math.MinInt, math.MaxInt, 1<<32, -1<<32)
	}
	return n.one(0, 0, 0, 1, 1, 2, -1)
}

// rules returns this number of rules.
func (n *numbers) rules(size int) []peer.Rule {
	var l []peer.Rule
	for range size {
		l = append(l, peer.Rule{State: n.state(), Line: n.line(), Out: n.text(n.below(5)), Next: n.state()})
	}
	return l
}

// room returns a room for a line, mostly one at which something changes.
func (n *numbers) room(line []byte) int {
	if n.rarely(4) {
		return n.any()
	}
	return len(line) + n.one(2, 2, 2, 3, 1, 0, -1)
}

// call lets a pair be asked anything.
func (n *numbers) call(p *pair) {
	switch n.below(8) {
	case 0:
		p.attach(n.any())
	case 1:
		p.attach(n.below(len(p.slow.peer().log) + 2))
	case 2, 3, 4:
		line := n.line()
		p.send(line, n.room(line))
	case 5, 6:
		p.read(n.any())
	default:
		p.peer()
	}
}

// isOften fails if a thing was seen too rarely.
func isOften(t *testing.T, times, least int, what string) {
	t.Helper()
	if times < least {
		t.Errorf("only %d %s", times, what)
	}
}

// Any sequence of calls comes to what the second link comes to.
func TestAnyCalls(t *testing.T) {
	n := numbers(2)
	logs, lines, parts, states, behind := 0, 0, 0, 0, 0
	for range 3000 {
		p := newPair(t, n.rules(n.one(0, 1, 5, 20, 20, 60, 100)))
		for range n.below(40) {
			n.call(p)
		}
		end := deviceOf(p.peer())
		if len(end.log) > 0 {
			logs++
		}
		if len(end.lines) > 3 {
			lines++
		}
		if end.part != "" {
			parts++
		}
		if end.state != 0 {
			states++
		}
		if p.slow.position > 0 && p.slow.position < len(end.log) {
			behind++
		}
		p.rest()
	}
	isOften(t, logs, 1000, "devices with a Log")
	isOften(t, lines, 1000, "devices with several lines")
	isOften(t, parts, 300, "devices with a Part")
	isOften(t, states, 500, "devices in another State")
	isOften(t, behind, 300, "positions within the Log")
}

// All short sequences of some calls.
func TestShortSequences(t *testing.T) {
	rules := []peer.Rule{rule(0, "a", "12", 1), rule(1, "a", "3", 0), rule(1, "", "45", 0)}
	calls := []func(p *pair){
		func(p *pair) { p.send([]byte("a"), 3) },
		func(p *pair) { p.send([]byte("a"), 2) },
		func(p *pair) { p.send(nil, 2) },
		func(p *pair) { p.send([]byte("a"), 0) },
		func(p *pair) { p.read(1) },
		func(p *pair) { p.read(3) },
		func(p *pair) { p.attach(0) },
		func(p *pair) { p.attach(2) },
		func(p *pair) { p.attach(3) },
	}
	total := 1
	for range 5 {
		total *= len(calls)
	}
	for i := range total {
		p := newPair(t, rules)
		for rest := i; rest > 0; rest /= len(calls) {
			calls[rest%len(calls)](p)
		}
		p.peer()
		p.rest()
	}
}

// Two links with the same rules do not touch each other, whatever is asked of them.
func TestTwoLinks(t *testing.T) {
	n := numbers(3)
	for range 500 {
		rules := n.rules(20)
		one, other := newPair(t, rules), newPair(t, rules)
		for range 30 {
			n.call([]*pair{one, other}[n.below(2)])
		}
		one.peer()
		other.peer()
		one.rest()
		other.rest()
	}
	one, other := newPair(t, echoes("x")), newPair(t, echoes("x"))
	one.sends("a", 3, true)
	other.attaches(1, api.ErrArg)
	other.is(device{})
}

// Links at the same time.
func TestLinksAtTheSameTime(t *testing.T) {
	rules := echoes("xyz")
	results := make(chan bool)
	for range 8 {
		go func() {
			fine := true
			for range 200 {
				l := link.New(rules)
				fine = fine && l.Send([]byte("a"), 3) && string(l.Read(2)) == "xy" && l.Attach(3) == api.OK && len(l.Peer().Lines) == 1
			}
			results <- fine
		}()
	}
	for range 8 {
		if !<-results {
			t.Error("a link did not do as it was asked")
		}
	}
}
