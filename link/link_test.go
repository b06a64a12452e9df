package link_test

import (
	"fmt"
	"math"
	"slices"
	"strings"
	"testing"

	"davit/api"
	"davit/link"
	"davit/peer"
)

// The calls have exactly these signatures.
var (
	_ func([]peer.Rule) *link.Link       = link.New
	_ func(*link.Link, int) api.Errno    = (*link.Link).Attach
	_ func(*link.Link, []byte, int) bool = (*link.Link).Send
	_ func(*link.Link, int) []byte       = (*link.Link).Read
	_ func(*link.Link) peer.Peer         = (*link.Link).Peer
)

// ends are numbers at the ends, and such whose lower halves are small.
var ends = []int{math.MinInt, math.MinInt + 1, math.MinInt + 3, -1 << 32, -1<<32 + 3, math.MinInt32, -300, -2, -1, math.MaxInt32, 1 << 32, 1<<32 + 3, math.MaxInt - 3, math.MaxInt - 1, math.MaxInt}

// ordinary returns rules for a device that asks for a name, and can then be turned on and off.
func ordinary() []peer.Rule {
	return []peer.Rule{
		rule(0, "root", "pass?", 1),
		rule(0, "", "name?", 0),
		rule(1, "secret", "ok\r\n> ", 2),
		rule(1, "", "name?", 0),
		rule(2, "on", "lit\n> ", 3),
		rule(2, "quit", "bye\n", 0),
		rule(3, "off", "dark\n> ", 2),
		rule(3, "on", "", 3),
	}
}

// echoes returns rules by which a device outputs this for any of the lines a, b and c.
func echoes(out string) []peer.Rule {
	return []peer.Rule{rule(0, "a", out, 0), rule(0, "b", out, 0), rule(0, "c", out, 0)}
}

// manyRules returns rules of all kinds.
func manyRules() [][]peer.Rule {
	l := [][]peer.Rule{
		nil, {}, {{}}, ordinary(), echoes("x"), {rule(0, "go", "ok", 0)},
		{rule(0, "go", "a", 1), rule(0, "go", "b", 2), rule(1, "go", "c", 0)},
		{{Line: nil, Out: nil}, {Line: []byte{}, Out: []byte{}, Next: 3}, {State: 3, Out: []byte("\n\x15")}},
		{rule(0, "\n", "no", 1), rule(0, "\x15", "no", 2), rule(0, "a\nb", "no", 3), rule(0, "\x15go", "no", 4)},
		{rule(math.MinInt, "go", "a", math.MaxInt), rule(math.MaxInt, "go", "b", math.MinInt), rule(0, "go", "c", math.MaxInt)},
		{rule(0, strings.Repeat("x", 300), "long", 1), rule(0, strings.Repeat("x", 301), "no", 2)},
	}
	for _, size := range []int{20, 21, 300} {
		var many []peer.Rule
		for i := range size {
			many = append(many, rule(i, "go", fmt.Sprint(i), (i+1)%size))
		}
		l = append(l, many)
	}
	return l
}

func TestExample(t *testing.T) {
	p := newPair(t, nil)
	p.sends("hi", 3, false)
	p.is(device{part: "hi"})
	p.sends("ok", 4, true)
	p.is(device{lines: []string{"ok"}})
}

func TestOrdinaryConsole(t *testing.T) {
	p := newPair(t, ordinary())
	p.reads(10, "")
	p.sends("", 100, true)
	p.reads(3, "nam")
	p.sends("root", 100, true)
	p.reads(100, "e?pass?")
	p.sends("secret", 4, false)
	p.reads(100, "")
	p.sends("secret", 100, true)
	p.sends("on", 100, true)
	p.is(device{state: 3, log: "name?pass?ok\r\n> lit\n> ", lines: []string{"", "root", "secret", "on"}})
	p.reads(100, "ok\r\n> lit\n> ")
	p.attaches(5, api.OK)
	p.reads(5, "pass?")
	p.attaches(23, api.ErrArg)
	p.reads(4, "ok\r\n")
	p.sends("off", 5, true)
	p.attaches(22, api.OK)
	p.reads(100, "dark\n> ")
}

// P18.1: the device of a new link has the State 0 and is otherwise empty, and the position is 0.
func TestNew(t *testing.T) {
	for _, rules := range manyRules() {
		p := newPair(t, rules)
		p.is(device{})
		p.reads(1, "")
		p.attaches(0, api.OK)
		p.attaches(1, api.ErrArg)
		p.attaches(-1, api.ErrArg)
		p.is(device{})
		for _, line := range []string{"go", "", "a", "go", "\x15go", "a\nb", strings.Repeat("x", 300), strings.Repeat("x", 301), "root", "go", "go"} {
			p.sends(line, 400, true)
			p.peer()
			p.read(2)
		}
		p.rest()
	}
}

// All rules of a link count, the first of several ones first.
func TestRules(t *testing.T) {
	for _, size := range []int{1, 2, 3, 19, 20, 21, 100, 1000} {
		for _, first := range []int{0, 1, size / 2, size - 1} {
			rules := make([]peer.Rule, size)
			for i := range rules {
				rules[i] = rule(0, "go", fmt.Sprint(i), i+1)
				if i < first {
					rules[i].Line = []byte("gone")
				}
			}
			if first >= size {
				continue
			}
			p := newPair(t, rules)
			p.sends("go", 9, true)
			p.is(device{state: first + 1, log: fmt.Sprint(first), lines: []string{"go"}})
			p.reads(9, fmt.Sprint(first))
		}
	}
}

// P18.1: from 0 to the length of the Log each offset becomes the position; any other one is ErrArg, and leaves it as it was.
func TestAttach(t *testing.T) {
	out := "0123456789"
	for size := range 4 {
		p := newPair(t, echoes(out))
		log := strings.Repeat(out, size)
		for range size {
			p.sends("a", 3, true)
		}
		for offset := -5; offset < len(log)+6; offset++ {
			for _, before := range []int{0, len(log) / 2, len(log)} {
				p.attaches(before, api.OK)
				if offset < 0 || offset > len(log) {
					p.attaches(offset, api.ErrArg)
					p.reads(100, log[before:])
					continue
				}
				p.attaches(offset, api.OK)
				p.reads(100, log[offset:])
				p.attaches(offset, api.OK)
				p.reads(1, log[offset:min(offset+1, len(log))])
				p.attaches(offset, api.OK)
				p.rest()
			}
		}
		for _, offset := range ends {
			p.attaches(len(log)/2, api.OK)
			p.attaches(offset, api.ErrArg)
			p.reads(100, log[len(log)/2:])
		}
	}
}

// The length of the Log, and not how far it was read, bounds Attach; and it grows.
func TestAttachAsTheLogGrows(t *testing.T) {
	p := newPair(t, []peer.Rule{rule(0, "one", "1", 0), rule(0, "none", "", 0), rule(0, "five", "56789", 0)})
	log := ""
	for i := range 60 {
		line := []string{"one", "none", "five", "other"}[i%4]
		p.attaches(len(log)+1, api.ErrArg)
		p.sends(line, 100, true)
		log += []string{"1", "", "56789", ""}[i%4]
		p.attaches(len(log)+1, api.ErrArg)
		p.attaches(len(log), api.OK)
		p.reads(100, "")
		behind := max(len(log)-2, 0)
		p.attaches(behind, api.OK)
		p.reads(100, log[behind:])
		p.attaches(0, api.OK)
		p.reads(1000, log)
	}
}

// Attach does not touch the device, nor what it receives later.
func TestAttachLeavesTheDevice(t *testing.T) {
	p := newPair(t, echoes("xyz"))
	p.sends("a", 3, true)
	p.sends("b", 2, false)
	for _, offset := range append([]int{0, 1, 2, 3, 4}, ends...) {
		p.attach(offset)
		p.is(device{part: "b", log: "xyz", lines: []string{"a"}})
	}
	p.sends("c", 3, true)
	p.is(device{log: "xyzxyz", lines: []string{"a", "c"}})
}

// sentLines returns lines of the sizes at which something changes, of any bytes.
func sentLines() [][]byte {
	l := [][]byte{nil, {}, {0}, {10}, {21}, {255}, []byte("a"), []byte("hi"), []byte("a\nb"), []byte("a\x15b"), []byte("\n\n"), []byte("\x15\n\x15"), []byte("go\r")}
	for _, size := range []int{298, 299, 300, 301, 302, 303, 600, 5000} {
		l = append(l, []byte(strings.Repeat("x", size)), []byte(strings.Repeat("0123456789\x00\xff", size)[:size]))
	}
	all := make([]byte, 256)
	for i := range all {
		all[i] = byte(i)
	}
	return append(l, all)
}

// P18.2: the device receives the first bytes of 21, the line and 10, as many as there is room for, and true tells that these were all.
func TestSendWithEachRoom(t *testing.T) {
	rules := append(echoes("."), rule(0, "", "!", 0), rule(0, strings.Repeat("x", 300), "long", 0), rule(0, "b", "-", 0))
	for _, line := range sentLines() {
		whole := bytesOf(line)
		rooms := slices.Clone(ends)
		for room := -2; room <= len(whole)+3; room++ {
			if room < 8 || room > len(whole)-8 || room > 290 && room < 310 {
				rooms = append(rooms, room)
			}
		}
		for _, room := range rooms {
			p := newPair(t, rules)
			p.sends(string(line), room, room >= len(whole))
			received := whole[:max(min(room, len(whole)), 0)]
			p.is(deviceOf(peer.Feed(rules, peer.Peer{}, received)))
			p.rest()
		}
	}
}

// What an earlier line has left in the Part is discarded, if there is room for one byte at least.
func TestSendDiscards(t *testing.T) {
	for _, left := range []string{"", "l", "left", strings.Repeat("l", 300), strings.Repeat("l", 301)} {
		part := left[:min(len(left), 300)]
		for room, want := range []string{part, "", "g", "go"} {
			p := newPair(t, nil)
			p.sends(left, len(left)+1, false)
			p.is(device{part: part})
			p.sends("go", room, false)
			p.is(device{part: want})
			p.sends("go", -room, false)
			p.is(device{part: want})
			p.sends("go", 4, true)
			p.is(device{lines: []string{"go"}})
		}
	}
}

// The device receives the bytes of a line and acts on them, also where the line has bytes 10 and 21 in it.
func TestSendOfAnyBytes(t *testing.T) {
	rules := []peer.Rule{rule(0, "a", "1", 1), rule(1, "b", "2", 0), rule(0, "", "3", 0)}
	p := newPair(t, rules)
	p.sends("a\nb\na\x15", 100, true)
	p.is(device{log: "123", lines: []string{"a", "b", ""}})
	p.sends("x\x15a", 4, false)
	p.is(device{part: "a", log: "123", lines: []string{"a", "b", ""}})
	p.sends("x\x15a", 5, true)
	p.is(device{state: 1, log: "1231", lines: []string{"a", "b", "", "a"}})
	p.sends("b\nc", 3, false)
	p.is(device{log: "12312", lines: []string{"a", "b", "", "a", "b"}})
	for c := range 256 {
		for _, line := range []string{string([]byte{byte(c)}), "x" + string([]byte{byte(c)}), string([]byte{byte(c)}) + "x"} {
			for room := range 5 {
				newPair(t, rules).sends(line, room, room >= len(line)+2)
				p.sends(line, room, room >= len(line)+2)
				p.peer()
			}
		}
	}
}

// Of a line of more than 300 bytes the first 300 are received.
func TestSendOfLongLines(t *testing.T) {
	long := strings.Repeat("0123456789", 70)
	for _, size := range []int{298, 299, 300, 301, 302, 600, 700} {
		first := long[:min(size, 300)]
		p := newPair(t, []peer.Rule{rule(0, first, "yes", 1), rule(0, long[:size], "no", 2)})
		p.sends(long[:size], size+1, false)
		p.is(device{part: first})
		p.sends(long[:size], size+2, true)
		p.is(device{state: 1, log: "yes", lines: []string{first}})
	}
}

// What Send returns does not depend on whether a rule has the line.
func TestSendOfLinesWithoutRule(t *testing.T) {
	for _, rules := range manyRules() {
		p := newPair(t, rules)
		for _, line := range []string{"", "what", "go", "xyz", "root"} {
			p.sends(line, len(line)+1, false)
			p.sends(line, len(line)+2, true)
			p.sends(line, len(line)+3, true)
		}
		p.peer()
	}
}

// P18.2: Read returns the next bytes, at most so many, and goes on behind them.
func TestReadOfEachSize(t *testing.T) {
	out := "0123456789\n\x15\x00\xff"
	for _, position := range []int{0, 1, 5, len(out) - 1, len(out)} {
		mosts := slices.Clone(ends)
		for most := -3; most < len(out)+4; most++ {
			mosts = append(mosts, most)
		}
		for _, most := range mosts {
			p := newPair(t, echoes(out))
			p.sends("a", 3, true)
			p.attaches(position, api.OK)
			end := position + max(min(most, len(out)-position), 0)
			p.reads(most, out[position:end])
			p.is(device{log: out, lines: []string{"a"}})
			p.reads(1, out[end:min(end+1, len(out))])
			p.rest()
		}
	}
}

// Reading on in parts returns what reading at once returns, also as the Log grows in between.
func TestReadInParts(t *testing.T) {
	out := strings.Repeat("The quick brown fox\n", 30)
	for _, most := range []int{1, 2, 3, 7, 16, 299, 599, 600, 601} {
		p := newPair(t, echoes(out))
		p.sends("a", 3, true)
		got := ""
		for i := range 2*len(out)/most + 2 {
			if i == 3 {
				p.sends("b", 3, true)
			}
			part := p.read(most)
			if len(part) > most {
				t.Fatalf("Read(%d) returned %d bytes", most, len(part))
			}
			got += string(part)
		}
		got += string(p.read(1 << 40))
		if got != p.slow.peer().log {
			t.Fatalf("in parts of %d there were read %d bytes: %q", most, len(got), got)
		}
	}
}

func TestReadOfNothing(t *testing.T) {
	p := newPair(t, echoes("xyz"))
	for range 3 {
		for _, most := range append([]int{0, 1, 2, 3}, ends...) {
			p.reads(most, "")
		}
	}
	p.sends("a", 3, true)
	for _, most := range []int{0, -1, math.MinInt} {
		p.reads(most, "")
	}
	p.reads(math.MaxInt, "xyz")
	p.reads(math.MaxInt, "")
}

// What was read can be read again, as often as the link is attached.
func TestReadAgain(t *testing.T) {
	p := newPair(t, echoes("0123456789"))
	p.sends("a", 3, true)
	for offset := range 11 {
		for most := range 12 {
			p.attaches(offset, api.OK)
			p.reads(most, "0123456789"[offset:min(offset+most, 10)])
		}
	}
}

// A device that outputs much, and receives many lines.
func TestLongLog(t *testing.T) {
	out := strings.Repeat("0123456789", 10000)
	p := newPair(t, echoes(out))
	for range 5 {
		p.sends("a", 3, true)
	}
	for _, offset := range []int{0, 1, 99999, 100000, 255555, 499999, 500000} {
		p.attaches(offset, api.OK)
		if got := p.link.Read(math.MaxInt); string(got) != strings.Repeat(out, 5)[offset:] {
			t.Fatalf("behind %d there are %d bytes", offset, len(got))
		}
	}
	p.attaches(500001, api.ErrArg)
	many := newPair(t, echoes("x"))
	var lines []string
	for range 3000 {
		if !many.link.Send([]byte("b"), 3) {
			t.Fatal("Send returned false")
		}
		lines = append(lines, "b")
	}
	if got := many.link.Peer(); !same(got, device{log: strings.Repeat("x", 3000), lines: lines}) {
		t.Fatalf("3000 lines: %s", shown(deviceOf(got)))
	}
}

// P18.1: Peer returns the device, and changes neither it nor the position.
func TestPeer(t *testing.T) {
	for _, rules := range manyRules() {
		p := newPair(t, rules)
		for i, line := range []string{"go", "a", "root", "", "go", "secret", "x\ny", "b\x15"} {
			p.sends(line, len(line)+1, false)
			for range 3 {
				p.peer()
			}
			p.sends(line, len(line)+2, true)
			for range 3 {
				p.peer()
			}
			p.read(i % 3)
			p.peer()
		}
		p.rest()
	}
}

// P18.3: a line without 10 and 21 of at most 300 bytes that is sent completely is received unchanged, whatever was sent before of other lines without 10.
func TestLinesAreReceivedUnchanged(t *testing.T) {
	long := strings.Repeat("0123456789", 40)
	lines := []string{"", "a", "hi", " ", "\x00", "\xff\xfe", "\r", long[:298], long[:299], long[:300]}
	others := append([]string{"\x15", "a\x15", "\x15a\x15b", long[:301], long}, lines...)
	for _, line := range lines {
		for _, other := range others {
			for _, room := range []int{-1, 0, 1, 2, 3, len(other) / 2, len(other), len(other) + 1} {
				p := newPair(t, echoes("x"))
				room = min(room, len(other)+1)
				p.sends(other, room, false)
				p.sends(other, room, false)
				p.sends(line, 302, true)
				if got := deviceOf(p.peer()); got.part != "" || !slices.Equal(got.lines, []string{line}) {
					t.Fatalf("%s: %s, not the line %.320q alone", p.calls, shown(got), line)
				}
			}
		}
	}
}

// P18.3: of lines without 10 and 21 of at most 300 bytes there are received those that were sent completely, and no other ones.
func TestLinesThatAreNotSentCompletely(t *testing.T) {
	n := numbers(1)
	for range 300 {
		p := newPair(t, echoes("x"))
		var want []string
		for range 20 {
			line := string(n.plain(min(n.size(), 300)))
			room := n.one(-1, 0, 1, 2, len(line)-1, len(line), len(line)+1, len(line)+2, len(line)+2, len(line)+2, len(line)+3)
			if p.send([]byte(line), room) {
				want = append(want, line)
			}
		}
		if got := deviceOf(p.peer()); !slices.Equal(got.lines, want) {
			t.Fatalf("%s: %s, not the lines %q", p.calls, shown(got), want)
		}
	}
}

// A nil link.
func TestNoLink(t *testing.T) {
	var none *link.Link
	for range 2 {
		for _, x := range append([]int{0, 1, 2, 3, 100}, ends...) {
			if err := none.Attach(x); err != api.ErrArg {
				t.Errorf("Attach(%d): %d", x, err)
			}
			if b := none.Read(x); len(b) > 0 {
				t.Errorf("Read(%d): %q", x, b)
			}
			for _, line := range sentLines() {
				if none.Send(line, x) {
					t.Errorf("Send(%q, %d) returned true", line, x)
				}
			}
		}
		if p := none.Peer(); !same(p, device{}) {
			t.Errorf("Peer: %s", shown(deviceOf(p)))
		}
	}
}

// The calls of a link may be kept as values, which act on it.
func TestCallsAsValues(t *testing.T) {
	l, other := link.New(echoes("xyz")), link.New(echoes("other"))
	attach, send, read, device := l.Attach, l.Send, l.Read, l.Peer
	l = other
	if !send([]byte("a"), 3) || send([]byte("b"), 2) || string(read(2)) != "xy" || attach(1) != api.OK || attach(4) != api.ErrArg || string(read(9)) != "yz" {
		t.Error("the calls do not act on their link")
	}
	if p := device(); string(p.Log) != "xyz" || string(p.Part) != "b" {
		t.Errorf("Peer: %s", shown(deviceOf(p)))
	}
	if p := l.Peer(); len(p.Log) > 0 {
		t.Errorf("the calls act on another link: %s", shown(deviceOf(p)))
	}
	var none *link.Link
	attach, send, read, device = none.Attach, none.Send, none.Read, none.Peer
	if send(nil, 9) || len(read(9)) > 0 || attach(0) != api.ErrArg || !same(device(), deviceOf(peer.Peer{})) {
		t.Error("the calls of a nil link")
	}
}
