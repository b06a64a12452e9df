package link_test

import (
	"bytes"
	"reflect"
	"strings"
	"testing"

	"davit/api"
	"davit/link"
	"davit/peer"
)

// roomyText returns a copy in new memory, in which other bytes stand behind the end, so that an append to it would be seen.
func roomyText(b []byte) []byte {
	return append(bytes.Clone(b), strings.Repeat("\x01\x02\x03\x04", 20)...)[:len(b)]
}

// roomyRules returns a copy in new memory, behind which stand rules that would answer.
func roomyRules(rules []peer.Rule) []peer.Rule {
	var l []peer.Rule
	for _, r := range rules {
		l = append(l, peer.Rule{State: r.State, Line: roomyText(r.Line), Out: roomyText(r.Out), Next: r.Next})
	}
	return append(l, rule(0, "", "behind", 9), rule(0, "what", "behind", 9))[:len(rules)]
}

// whole returns a copy of all memory of texts, also of what is behind their ends.
func whole(l ...[]byte) []any {
	all := []any{len(l)}
	for _, b := range l[:cap(l)] {
		all = append(all, len(b), bytes.Clone(b[:cap(b)]))
	}
	return all
}

func wholeRules(rules []peer.Rule) []any {
	all := []any{len(rules)}
	for _, r := range rules[:cap(rules)] {
		all = append(all, r.State, whole(r.Line, r.Out), r.Next)
	}
	return all
}

// overwrite changes texts, and what an append to them would reach.
func overwrite(l ...[]byte) {
	for _, b := range l {
		for i := range b[:cap(b)] {
			b[:cap(b)][i] ^= 255
		}
	}
}

func overwriteDevice(p peer.Peer) {
	overwrite(p.Part, p.Log)
	overwrite(p.Lines[:cap(p.Lines)]...)
	clear(p.Lines[:cap(p.Lines)])
}

func overwriteRules(rules []peer.Rule) {
	for i, r := range rules[:cap(rules)] {
		overwrite(r.Line, r.Out)
		rules[:cap(rules)][i] = rule(0, "a", "overwritten", 5)
	}
}

// isAlone checks that no list of a device shares memory with another one, up to the end of its room: each is filled with marks of its own, and still has them when all are filled.
func isAlone(t *testing.T, p peer.Peer) {
	t.Helper()
	want := deviceOf(p)
	var lists, had [][]byte
	for _, b := range append([][]byte{p.Part, p.Log}, p.Lines...) {
		lists = append(lists, b[:cap(b)])
		had = append(had, bytes.Clone(b[:cap(b)]))
	}
	for _, shift := range []int{0, 8, 16} {
		for i, b := range lists {
			copy(b, bytes.Repeat([]byte{byte(i >> shift)}, len(b)))
		}
		for i, b := range lists {
			if bytes.Count(b, []byte{byte(i >> shift)}) != len(b) {
				t.Fatalf("the list %d (Part, Log, Lines) shares memory in %s", i, shown(want))
			}
		}
	}
	for i, b := range lists {
		copy(b, had[i])
	}
	if !same(p, want) {
		t.Fatalf("%s has become %s", shown(want), shown(deviceOf(p)))
	}
}

// New neither changes nor keeps the rules, nor what these hold.
func TestRulesAreNeitherChangedNorKept(t *testing.T) {
	n := numbers(4)
	sets := manyRules()
	for range 60 {
		sets = append(sets, n.rules(n.below(25)))
	}
	for _, set := range sets {
		rules := roomyRules(set)
		all := wholeRules(rules)
		p := newPair(t, rules)
		for range 20 {
			n.call(p)
		}
		if !reflect.DeepEqual(wholeRules(rules), all) {
			t.Fatalf("%s: the rules are now %s", p.calls, told(rules))
		}
		overwriteRules(rules)
		for range 20 {
			n.call(p)
		}
		p.sends("a", 3, true)
		p.peer()
		p.rest()
	}
}

// A change of the rules while there is a link changes nothing, for each field of a rule.
func TestRulesThatChange(t *testing.T) {
	for _, change := range []func(rules []peer.Rule){
		func(rules []peer.Rule) { rules[0].State = 1 },
		func(rules []peer.Rule) { rules[0].Line = []byte("b") },
		func(rules []peer.Rule) { rules[0].Line[0] = 'b' },
		func(rules []peer.Rule) { rules[0].Out = []byte("no") },
		func(rules []peer.Rule) { rules[0].Out[1] = 'b' },
		func(rules []peer.Rule) { rules[0].Next = 1 },
		func(rules []peer.Rule) { rules[0], rules[1] = rules[1], rules[0] },
		func(rules []peer.Rule) { clear(rules) },
	} {
		for _, already := range []bool{false, true} {
			rules := []peer.Rule{rule(0, "a", "yes", 0), rule(0, "a", "no", 2), rule(0, "", "x", 3)}
			p := newPair(t, rules)
			want := device{log: "yesyes", lines: []string{"a", "a"}}
			if already {
				p.sends("a", 3, true)
				want = device{log: "yesyesyes", lines: []string{"a", "a", "a"}}
			}
			change(rules)
			p.sends("a", 3, true)
			p.sends("a", 3, true)
			p.is(want)
		}
	}
}

// Send neither changes a line nor what is behind it, and keeps nothing of it.
func TestLinesAreNeitherChangedNorKept(t *testing.T) {
	rules := append(echoes("x"), rule(0, strings.Repeat("x", 300), "long", 0))
	for _, sent := range sentLines() {
		for _, room := range []int{-1, 0, 1, 2, len(sent), len(sent) + 1, len(sent) + 2, len(sent) + 3, 1 << 40} {
			line := roomyText(sent)
			all := whole(line)
			p := newPair(t, rules)
			p.send(line, room)
			if !reflect.DeepEqual(whole(line), all) {
				t.Fatalf("%s: the line, or what is behind it, has changed: %q", p.calls, line[:cap(line)])
			}
			want := deviceOf(p.link.Peer())
			overwrite(line)
			p.is(want)
			overwriteDevice(p.link.Peer())
			if overwrite(line); !reflect.DeepEqual(whole(line), all) {
				t.Fatalf("%s: the device shares the memory of the line", p.calls)
			}
		}
	}
}

// The same memory with another line in it is another line.
func TestLineInMemoryThatIsUsedAgain(t *testing.T) {
	p := newPair(t, echoes("x"))
	line := []byte("?")
	var want []string
	for c := range 256 {
		if c == 10 || c == 21 {
			continue
		}
		line[0] = byte(c)
		p.send(line, 2)
		p.send(line, 3)
		want = append(want, string(line))
	}
	p.is(device{log: "xxx", lines: want})
}

// What stands behind the end of a line is not of it.
func TestBehindTheEndOfALine(t *testing.T) {
	p := newPair(t, echoes("x"))
	line := []byte("a\nb\x15c\n")
	for end := range len(line) + 1 {
		p.send(line[:end], end+2)
		p.send(line[:end], end+1)
		p.send(line[end:end], 3)
		p.peer()
	}
}

// What Peer returns is new memory, of which no two lists share any, and whose change no later call notices.
func TestDevicesAreNewMemory(t *testing.T) {
	n := numbers(5)
	for range 300 {
		p := newPair(t, n.rules(20))
		for range 30 {
			n.call(p)
			first := p.peer()
			had := deviceOf(first)
			isAlone(t, first)
			second := p.peer()
			overwriteDevice(first)
			if !same(second, had) {
				t.Fatalf("%s: two devices share memory", p.calls)
			}
			p.is(had)
			overwriteDevice(second)
		}
		p.attach(0)
		p.rest()
	}
}

// What Peer returned does not change with later calls.
func TestDevicesStay(t *testing.T) {
	n := numbers(6)
	for range 300 {
		p := newPair(t, n.rules(20))
		var devices []peer.Peer
		var had []device
		for range 30 {
			n.call(p)
			devices = append(devices, p.peer())
			had = append(had, deviceOf(devices[len(devices)-1]))
		}
		for i, d := range devices {
			if !same(d, had[i]) {
				t.Fatalf("%s: %s has become %s", p.calls, shown(had[i]), shown(deviceOf(d)))
			}
		}
	}
}

// What Read returns is new memory, which later calls do not change and whose change they do not notice.
func TestBytesThatAreReadAreNewMemory(t *testing.T) {
	out := "0123456789"
	p := newPair(t, echoes(out))
	p.sends("a", 3, true)
	var read [][]byte
	var had []string
	for offset := range 11 {
		for most := range 12 {
			p.attaches(offset, api.OK)
			b := p.read(most)
			read, had = append(read, b), append(had, string(b))
			if most%3 == 0 {
				p.sends("b", 3, true)
			}
		}
	}
	for i, b := range read {
		if string(b) != had[i] {
			t.Fatalf("%q has become %q", had[i], b)
		}
	}
	log := p.slow.peer().log
	for i, b := range read {
		overwrite(b)
		for j, other := range read[i+1:] {
			if string(other) != had[i+1+j] {
				t.Fatalf("a change of what one Read returned has changed %q to %q", had[i+1+j], other)
			}
		}
		if got := p.link.Peer(); string(got.Log) != log {
			t.Fatalf("a change of what Read returned has changed the Log to %q", got.Log)
		}
	}
	p.attaches(0, api.OK)
	overwrite(p.read(5))
	p.sends("c", 3, true)
	p.rest()
	p.attaches(3, api.OK)
	p.rest()
	p.peer()
}

// What Read and Peer return share no memory.
func TestReadAndPeerShareNothing(t *testing.T) {
	p := newPair(t, echoes("0123456789"))
	p.sends("a", 3, true)
	for most := range 11 {
		p.attaches(0, api.OK)
		d := p.peer()
		b := p.read(most)
		want := deviceOf(d)
		overwrite(b)
		if !same(d, want) {
			t.Fatalf("a change of what Read(%d) returned has changed %s to %s", most, shown(want), shown(deviceOf(d)))
		}
		overwriteDevice(d)
		p.attaches(0, api.OK)
		p.reads(most, "0123456789"[:most])
	}
}

// The rules and the lines may be one piece of memory.
func TestArgumentsThatShareMemory(t *testing.T) {
	text := []byte("ab\nab\x15b\nb")
	rules := []peer.Rule{{Line: text[:2], Out: text, Next: 1}, {State: 1, Line: text[1:2], Out: text[2:6]}}
	p := newPair(t, rules)
	for from := range len(text) + 1 {
		for to := from; to <= len(text); to++ {
			p.send(text[from:to], to-from+1)
			p.send(text[from:to], to-from+2)
			isAlone(t, p.peer())
			p.read(from)
		}
	}
	if string(text) != "ab\nab\x15b\nb" {
		t.Errorf("the text is now %q", text)
	}
	p.rest()
}

// A nil list and an empty one are equivalent.
func TestNilAndEmpty(t *testing.T) {
	for _, empty := range [][]byte{nil, {}} {
		for _, rules := range [][]peer.Rule{nil, {}, {{Line: empty, Out: empty, Next: 1}, {State: 1, Line: empty, Out: []byte("x")}}} {
			p := newPair(t, rules)
			p.sends(string(empty), 1, false)
			p.send(empty, 2)
			p.peer()
			p.send(empty, 2)
			p.rest()
			p.peer()
		}
	}
}

// What was asked of other links does not matter.
func TestOtherLinksDoNotMatter(t *testing.T) {
	ask := func() (device, string) {
		l := link.New(ordinary())
		l.Send([]byte("root"), 6)
		l.Send([]byte("secret"), 8)
		l.Send([]byte("on"), 3)
		l.Attach(3)
		return deviceOf(l.Peer()), string(l.Read(7))
	}
	want, read := ask()
	n := numbers(7)
	for range 100 {
		p := newPair(t, n.rules(20))
		for range 20 {
			n.call(p)
		}
		if d, b := ask(); !reflect.DeepEqual(d, want) || b != read {
			t.Fatalf("%s, %q; behind calls of other links %s, %q", shown(want), read, shown(d), b)
		}
	}
}
