package peer_test

import (
	"bytes"
	"fmt"
	"math"
	"reflect"
	"slices"
	"strings"
	"testing"

	"davit/peer"
)

// roomyText returns a copy in new memory, in which other bytes stand behind the end, so that an append to it would be seen.
func roomyText(b []byte) []byte {
	return append(bytes.Clone(b), strings.Repeat("\x01\x02\x03\x04", 200)...)[:len(b)]
}

func roomyDevice(p peer.Peer) peer.Peer {
	var lines [][]byte
	for _, line := range p.Lines {
		lines = append(lines, roomyText(line))
	}
	p.Part, p.Log, p.Lines = roomyText(p.Part), roomyText(p.Log), append(lines, slices.Repeat(texts("more"), 50)...)[:len(p.Lines)]
	return p
}

// roomyRules returns a copy in new memory, behind which stand rules that would answer.
func roomyRules(rules []peer.Rule) []peer.Rule {
	var l []peer.Rule
	for _, r := range rules {
		l = append(l, peer.Rule{State: r.State, Line: roomyText(r.Line), Out: roomyText(r.Out), Next: r.Next})
	}
	return append(l, rule(0, "", "behind", 9), rule(0, "what", "behind", 9))[:len(rules)]
}

// whole returns a copy of all memory of texts, also of what is behind their ends.
func whole(l ...[]byte) []any {
	all := []any{len(l)}
	for _, b := range l[:cap(l)] {
		all = append(all, len(b), bytes.Clone(b[:cap(b)]))
	}
	return all
}

func wholeDevice(p peer.Peer) []any {
	return append(slices.Concat(whole(p.Part, p.Log), whole(p.Lines...)), p.State)
}

func wholeRules(rules []peer.Rule) []any {
	all := []any{len(rules)}
	for _, r := range rules[:cap(rules)] {
		all = append(all, r.State, whole(r.Line, r.Out), r.Next)
	}
	return all
}

// overwrite changes texts, and what an append to them would reach.
func overwrite(l ...[]byte) {
	for _, b := range l {
		for i := range b[:cap(b)] {
			b[:cap(b)][i] ^= 255
		}
	}
}

func overwriteDevice(p peer.Peer) {
	overwrite(p.Part, p.Log)
	overwrite(p.Lines[:cap(p.Lines)]...)
	clear(p.Lines[:cap(p.Lines)])
}

func overwriteRules(rules []peer.Rule) {
	for _, r := range rules[:cap(rules)] {
		overwrite(r.Line, r.Out)
	}
	clear(rules[:cap(rules)])
}

// isAlone checks that no list of a device shares memory with another one, up to the end of its room: each is filled with marks of its own, and still has them when all are filled.
func isAlone(t *testing.T, p peer.Peer) {
	t.Helper()
	want := deviceOf(p)
	var lists, had [][]byte
	for _, b := range append([][]byte{p.Part, p.Log}, p.Lines...) {
		lists = append(lists, b[:cap(b)])
		had = append(had, bytes.Clone(b[:cap(b)]))
	}
	for _, shift := range []int{0, 8, 16} {
		for i, b := range lists {
			copy(b, bytes.Repeat([]byte{byte(i >> shift)}, len(b)))
		}
		for i, b := range lists {
			if bytes.Count(b, []byte{byte(i >> shift)}) != len(b) {
				t.Fatalf("the list %d (Part, Log, Lines) shares memory in %s", i, shown(want))
			}
		}
	}
	for i, b := range lists {
		copy(b, had[i])
	}
	if !same(p, want) {
		t.Fatalf("%s has become %s", shown(want), shown(deviceOf(p)))
	}
}

// situation is what Feed may be asked.
type situation struct {
	rules []peer.Rule
	p     peer.Peer
	b     []byte
}

// some returns situations of all kinds.
func some() []situation {
	var l []situation
	for _, p := range devices() {
		for _, s := range []string{"", "x", "\n", "\x15", "\nroot\nsecret\non\n\x15off\nquit\n\nwhat\no", "go\ngo\nx\x15y\n" + strings.Repeat("z", 310) + "\n"} {
			l = append(l, situation{ordinary(), p, []byte(s)}, situation{nil, p, []byte(s)})
		}
		l = append(l, situation{[]peer.Rule{rule(p.State, string(p.Part), "out", p.State)}, p, []byte("\n\n")})
	}
	n := numbers(3)
	for range 60 {
		l = append(l, situation{n.rules(n.below(25)), n.device(), n.bytes(n.below(10))})
	}
	return l
}

func TestArgumentsAreLeftAlone(t *testing.T) {
	for _, x := range some() {
		rules, p, b := roomyRules(x.rules), roomyDevice(x.p), roomyText(x.b)
		allRules, device, text := wholeRules(rules), wholeDevice(p), whole(b)
		after := feeds(t, rules, p, b)
		unchanged := func(what string) {
			t.Helper()
			if !reflect.DeepEqual(wholeRules(rules), allRules) || !reflect.DeepEqual(wholeDevice(p), device) || !reflect.DeepEqual(whole(b), text) {
				t.Fatalf("%s: the rules, the device or the bytes have changed: %s, %s, %q", what, told(rules), shown(deviceOf(p)), b)
			}
		}
		unchanged("the call")
		// What is returned is not of their memory, so changing it leaves them alone.
		want := deviceOf(after)
		isAlone(t, after)
		unchanged("a change of one list of what Feed returned")
		overwriteDevice(after)
		unchanged("a change of what Feed returned")
		if again := peer.Feed(rules, p, b); !same(again, want) {
			t.Fatalf("Feed(%s, %s, %q): %s; and later %s", told(rules), shown(deviceOf(p)), b, shown(want), shown(deviceOf(again)))
		}
	}
}

// What is returned does not change with the arguments.
func TestNothingIsKept(t *testing.T) {
	for _, x := range some() {
		rules, p, b := roomyRules(x.rules), roomyDevice(x.p), roomyText(x.b)
		after := peer.Feed(rules, p, b)
		want := deviceOf(after)
		overwriteRules(rules)
		overwriteDevice(p)
		overwrite(b)
		if !same(after, want) {
			t.Fatalf("%s changed with the arguments to %s", shown(want), shown(deviceOf(after)))
		}
		if again := peer.Feed(x.rules, x.p, x.b); !same(again, want) {
			t.Fatalf("Feed(%s, %s, %q): %s; and later %s", told(x.rules), shown(deviceOf(x.p)), x.b, shown(want), shown(deviceOf(again)))
		}
	}
}

// The devices that calls return share no memory, also if one is fed from the other, or two from the same one.
func TestDevicesOfSeveralCalls(t *testing.T) {
	for _, x := range some() {
		first := peer.Feed(x.rules, x.p, x.b)
		had := deviceOf(first)
		for _, s := range []string{"", "a", "\n", "root\nx", "\x15b\n", "on\noff\n"} {
			one := feeds(t, x.rules, first, []byte(s))
			other := feeds(t, x.rules, first, []byte(s+"other\n"))
			want := deviceOf(other)
			overwriteDevice(one)
			if !same(other, want) || !same(first, had) {
				t.Fatalf("the devices share memory: %s, %s", shown(want), shown(had))
			}
			overwriteDevice(other)
			if !same(first, had) {
				t.Fatalf("%s has become %s", shown(had), shown(deviceOf(first)))
			}
		}
	}
}

// The lists of a device, of the rules and of the bytes may be one piece of memory; those of the device that is returned are not.
func TestArgumentsThatShareMemory(t *testing.T) {
	text := []byte("ab\nab\x15b\nb")
	p := peer.Peer{Part: text[:1], Log: text[:4], Lines: [][]byte{text[:2], text, text[4:5], text[:2]}}
	rules := []peer.Rule{{Line: text[:2], Out: text, Next: 1}, {State: 1, Line: text[1:2], Out: text[2:6]}}
	for i := range len(text) + 1 {
		isAlone(t, feeds(t, rules, p, text[i:]))
		isAlone(t, feeds(t, rules, p, text[:i]))
	}
	becomes(t, rules, peer.Peer{Part: text[:1], Log: text[:1]}, "b\nb\n", device{log: "aab\nab\x15b\nb" + "\nab\x15", lines: []string{"ab", "b"}})
	if string(text) != "ab\nab\x15b\nb" {
		t.Errorf("the text is now %q", text)
	}
}

// What stands behind the ends of lists is not of them.
func TestBehindTheEndsOfLists(t *testing.T) {
	rules := []peer.Rule{rule(0, "go", "", 0), rule(0, "what", "no", 1)}
	rules[0].Line, rules[0].Out = []byte("gone")[:2], []byte("okay")[:2]
	p := peer.Peer{Part: []byte("going")[:1], Log: []byte("log of")[:3], Lines: texts("one", "two", "three")[:1]}
	p.Lines[0] = p.Lines[0][:2]
	becomes(t, rules[:1], p, "o\nwhat\n"[:2], device{log: "logok", lines: []string{"on", "go"}})
	becomes(t, rules[:1], p, "ne\nwhat\ngo\n", device{log: "logok", lines: []string{"on", "gne", "what", "go"}})
	becomes(t, rules[:1], p, "\x15what\n", device{log: "log", lines: []string{"on", "what"}})
}

// A nil list and an empty one are equivalent.
func TestNilAndEmpty(t *testing.T) {
	for _, part := range [][]byte{nil, {}} {
		for _, log := range [][]byte{nil, {}} {
			for _, lines := range [][][]byte{nil, {}} {
				for _, line := range [][]byte{nil, {}} {
					rules := []peer.Rule{{Line: line, Out: log, Next: 1}}
					p := peer.Peer{Part: part, Log: log, Lines: lines}
					becomes(t, rules, p, "", device{})
					becomes(t, rules, p, "\x15", device{})
					becomes(t, rules, p, "\n", device{state: 1, lines: []string{""}})
					becomes(t, rules, peer.Peer{Lines: [][]byte{line, part}}, "a\n", device{lines: []string{"", "", "a"}})
				}
			}
		}
	}
}

// The same memory with other things in it is another argument.
func TestMemoryThatIsUsedAgain(t *testing.T) {
	rules := []peer.Rule{rule(0, "a", "x", 0)}
	p := peer.Peer{Part: []byte("b"), Log: []byte("l"), Lines: texts("first")}
	b := []byte("c\n")
	first := peer.Feed(rules, p, b)
	want := deviceOf(first)
	for i := range 256 {
		c := byte(i)
		rules[0].Line, rules[0].State, rules[0].Out[0] = []byte{c, 'c'}, i%2, c
		p.Part[0], p.Log[0], p.Lines[0][0], p.State = c, c, c, i%3
		after := device{state: i % 3, log: string([]byte{c}), lines: []string{string([]byte{c}) + "irst", string([]byte{c, 'c'})}}
		if i%2 == i%3 {
			after.state, after.log = 0, string([]byte{c, c})
		}
		becomes(t, rules, p, string(b), after)
	}
	if !same(first, want) {
		t.Fatalf("%s has become %s", shown(want), shown(deviceOf(first)))
	}
}

func TestEarlierCallsDoNotMatter(t *testing.T) {
	l := some()
	for _, x := range l {
		want := deviceOf(peer.Feed(x.rules, x.p, x.b))
		for _, other := range l {
			peer.Feed(other.rules, other.p, other.b)
			if got := peer.Feed(x.rules, x.p, x.b); !same(got, want) {
				t.Fatalf("Feed(%s, %s, %q): %s; behind other calls %s", told(x.rules), shown(deviceOf(x.p)), x.b, shown(want), shown(deviceOf(got)))
			}
		}
	}
}

// Calls that go on at the same time do not touch each other, also if they are given the same memory.
func TestCallsAtTheSameTime(t *testing.T) {
	rules, p, b := ordinary(), roomyDevice(peer.Peer{State: 2, Part: []byte("o"), Log: []byte("> "), Lines: texts("x")}), []byte("n\noff\nqu\x15quit\nr")
	results := make(chan string)
	for i := range 8 {
		go func() {
			said := ""
			for range 500 {
				shared := peer.Feed(rules, p, b)
				own := peer.Feed(rules, peer.Peer{State: i}, []byte("on\n"+fmt.Sprint(i)))
				said = shown(deviceOf(shared)) + shown(deviceOf(own))
			}
			results <- said
		}()
	}
	var got []string
	for range 8 {
		got = append(got, <-results)
	}
	shared := device{part: "r", log: "> lit\n> dark\n> bye\n", lines: []string{"x", "on", "off", "quit"}}
	for i := range 8 {
		own := device{state: i, part: fmt.Sprint(i), lines: []string{"on"}}
		if i == 2 {
			own.state, own.log = 3, "lit\n> "
		}
		if want := shown(shared) + shown(own); !slices.Contains(got, want) {
			t.Errorf("no call returned %q: %q", want, got)
		}
	}
}

// Nothing of a rule counts but its fields: its place in memory, and the room behind its lists, do not.
func TestRulesInOtherMemory(t *testing.T) {
	for _, x := range some() {
		want := deviceOf(feeds(t, x.rules, x.p, x.b))
		becomes(t, roomyRules(x.rules), roomyDevice(x.p), string(x.b), want)
		becomes(t, append(slices.Clone(x.rules), rule(math.MinInt, "no line", "no", 0)), peerOf(deviceOf(x.p)), string(x.b), want)
	}
}
