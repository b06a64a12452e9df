package peer_test

import (
	"math"
	"slices"
	"strings"
	"testing"

	"davit/peer"
)

// numbers yields the same numbers in every test run.
type numbers uint64

func (n *numbers) below(most int) int {
	*n = *n*6364136223846793005 + 1442695040888963407
	return int(uint32(*n>>33)) % most
}

// rarely reports true once in so many times.
func (n *numbers) rarely(times int) bool {
	return n.below(times) == 0
}

// one returns one of some numbers.
func (n *numbers) one(l ...int) int {
	return l[n.below(len(l))]
}

// state returns any state, mostly one of a few, so that rules lead to each other.
func (n *numbers) state() int {
	if n.rarely(8) {
		return n.one(math.MinInt, math.MinInt+1, math.MaxInt-1, math.MaxInt, 1<<31, 1<<32, 1<<32+1, -1<<32)
	}
	return n.one(0, 0, 0, 1, 1, 2, -1)
}

// text returns this number of any bytes; sometimes nil, if it is 0.
func (n *numbers) text(size int) []byte {
	if size == 0 && n.rarely(2) {
		return nil
	}
	b := make([]byte, size)
	for i := range b {
		b[i] = byte(n.below(256))
	}
	return b
}

// size returns one of the sizes at which something changes, mostly a small one.
func (n *numbers) size() int {
	if n.rarely(6) {
		return n.one(299, 300, 301, 302, 600)
	}
	return n.below(5)
}

// line returns a line, mostly one of a few short ones, so that rules have it.
func (n *numbers) line() []byte {
	switch n.below(10) {
	case 0:
		return n.text(n.size())
	case 1:
		return []byte(strings.Repeat("ab", 150))[:n.one(298, 299, 300)]
	case 2:
		return []byte([]string{"a\n", "\x15", "\n", "a\x15b"}[n.below(4)])
	case 3:
		return nil
	}
	return []byte([]string{"a", "b", "ab", "ba", "aab", ""}[n.below(6)])
}

// rules returns this number of rules.
func (n *numbers) rules(size int) []peer.Rule {
	var l []peer.Rule
	for range size {
		l = append(l, peer.Rule{State: n.state(), Line: n.line(), Out: n.text(n.below(4)), Next: n.state()})
	}
	return l
}

// device returns any device.
func (n *numbers) device() peer.Peer {
	p := peer.Peer{State: n.state(), Log: n.text(n.size())}
	if n.rarely(2) {
		p.Part = n.line()
	} else if n.rarely(2) {
		p.Part = n.text(n.size())
	}
	for range n.below(4) {
		p.Lines = append(p.Lines, n.line())
	}
	return p
}

// bytes returns bytes that are mostly lines.
func (n *numbers) bytes(lines int) []byte {
	var b []byte
	for range lines {
		b = append(b, n.line()...)
		if n.rarely(4) {
			b = append(b, n.text(n.size())...)
		}
		b = append(b, byte(n.one(10, 10, 10, 10, 10, 21, 'a', n.below(256))))
	}
	return b
}

// isOften fails if a thing was seen too rarely.
func isOften(t *testing.T, times, least int, what string) {
	t.Helper()
	if times < least {
		t.Errorf("only %d %s", times, what)
	}
}

func TestAnyDevices(t *testing.T) {
	n := numbers(1)
	answers, changes, lost, discards := 0, 0, 0, 0
	for range 30000 {
		rules, p, b := n.rules(n.one(0, 1, 2, 5, 20, 60)), n.device(), n.bytes(n.below(12))
		after := feeds(t, rules, p, b)
		if len(after.Log) > len(p.Log) {
			answers++
		}
		if after.State != p.State {
			changes++
		}
		if len(after.Part) >= 300 || slices.ContainsFunc(after.Lines[len(p.Lines):], func(line []byte) bool { return len(line) >= 300 }) {
			lost++
		}
		if slices.Contains(b, 21) {
			discards++
		}
	}
	isOften(t, answers, 5000, "devices that answered")
	isOften(t, changes, 4000, "devices whose state has changed")
	isOften(t, lost, 3000, "long lines")
	isOften(t, discards, 8000, "bytes with 21")
}

// P17.2 for any devices and bytes, in any number of parts.
func TestAnyParts(t *testing.T) {
	n := numbers(2)
	for range 5000 {
		rules, p, b := n.rules(n.one(0, 1, 2, 5, 20)), n.device(), n.bytes(n.below(8))
		whole := deviceOf(peer.Feed(rules, p, b))
		at := n.below(len(b) + 1)
		becomes(t, rules, peer.Feed(rules, p, b[:at]), string(b[at:]), whole)
		part := p
		for from := 0; from < len(b); {
			to := min(from+n.below(9), len(b))
			part = peer.Feed(rules, part, b[from:to])
			from = to
		}
		if !same(part, whole) {
			t.Fatalf("Feed(%s, %s, %q) in parts: %s, not %s", told(rules), shown(deviceOf(p)), b, shown(deviceOf(part)), shown(whole))
		}
		incomplete := slices.DeleteFunc(n.bytes(n.below(4)), func(c byte) bool { return c == 10 })
		want := peer.Feed(rules, p, slices.Concat(b[:at], []byte{21}, b[at:]))
		becomes(t, rules, p, string(slices.Concat(b[:at], incomplete, []byte{21}, b[at:])), deviceOf(want))
	}
}

// All short sequences of some bytes, for rules that have the short lines in several states.
func TestShortBytes(t *testing.T) {
	rules := []peer.Rule{
		rule(0, "a", "1", 1), rule(0, "ab", "2", 0), rule(1, "", "3", 0), rule(1, "a", "4", 2), rule(2, "b", "\n", 0),
		rule(2, "b", "5", 1), rule(0, "", "", 2), rule(2, "", "6", 2), rule(1, "ba", "7", 1), rule(0, "b", "8\x15", 1),
	}
	shorts := []string{""}
	for i := 0; i < len(shorts) && len(shorts[i]) < 6; i++ {
		for _, c := range []string{"a", "b", "\n", "\x15"} {
			shorts = append(shorts, shorts[i]+c)
		}
	}
	long := strings.Repeat("a", 299)
	for _, s := range shorts {
		for state := range 3 {
			feeds(t, rules, peer.Peer{State: state}, []byte(s))
			feeds(t, rules, peer.Peer{State: state, Part: []byte("a"), Log: []byte("l"), Lines: texts("a")}, []byte(s))
		}
		feeds(t, append(rules, rule(0, long+"b", "9", 1)), peer.Peer{Part: []byte(long)}, []byte(s))
	}
	isOften(t, len(shorts), 5461, "short sequences")
}
