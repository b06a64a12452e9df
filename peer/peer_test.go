package peer_test

import (
	"bytes"
	"fmt"
	"math"
	"slices"
	"strings"
	"testing"

	"davit/peer"
)

// The call has exactly this signature, and its types have exactly these fields.
var (
	_ func([]peer.Rule, peer.Peer, []byte) peer.Peer = peer.Feed

	_ = struct {
		State     int
		Line, Out []byte
		Next      int
	}(peer.Rule{})
	_ = struct {
		State     int
		Part, Log []byte
		Lines     [][]byte
	}(peer.Peer{})
)

// shown tells of a device in a message.
func shown(d device) string {
	return fmt.Sprintf("(state %d, part of %d %.320q, log of %d %.200q, %d lines %.900q)", d.state, len(d.part), d.part, len(d.log), d.log, len(d.lines), d.lines[:min(len(d.lines), 12)])
}

// told tells of rules in a message.
func told(rules []peer.Rule) string {
	s := fmt.Sprintf("%d rules:", len(rules))
	for _, r := range rules[:min(len(rules), 30)] {
		s += fmt.Sprintf(" %d %.60q > %.60q %d;", r.State, r.Line, r.Out, r.Next)
	}
	return s
}

// feeds checks Feed against the second one; it returns what both return.
func feeds(t *testing.T, rules []peer.Rule, p peer.Peer, b []byte) peer.Peer {
	t.Helper()
	want := slowFeed(rules, p, b)
	after := peer.Feed(rules, p, b)
	if !same(after, want) {
		t.Fatalf("Feed(%s, %s, %.900q): %s, not %s", told(rules), shown(deviceOf(p)), b, shown(deviceOf(after)), shown(want))
	}
	return after
}

// becomes checks that Feed returns this device.
func becomes(t *testing.T, rules []peer.Rule, p peer.Peer, s string, want device) {
	t.Helper()
	if after := feeds(t, rules, p, []byte(s)); !same(after, want) {
		t.Fatalf("Feed(%s, %s, %.900q): %s, not %s", told(rules), shown(deviceOf(p)), s, shown(deviceOf(after)), shown(want))
	}
}

func rule(state int, line, out string, next int) peer.Rule {
	return peer.Rule{State: state, Line: []byte(line), Out: []byte(out), Next: next}
}

// ordinary returns rules for a device that asks for a name, and can then be turned on and off.
func ordinary() []peer.Rule {
	return []peer.Rule{
		rule(0, "root", "pass?", 1),
		rule(0, "", "name?", 0),
		rule(1, "secret", "ok\r\n> ", 2),
		rule(1, "", "name?", 0),
		rule(2, "on", "lit\n> ", 3),
		rule(2, "quit", "bye\n", 0),
		rule(3, "off", "dark\n> ", 2),
		rule(3, "on", "", 3),
	}
}

// devices returns devices of all kinds.
func devices() []peer.Peer {
	long := strings.Repeat("0123456789", 30)
	return []peer.Peer{
		{},
		{Part: []byte{}, Log: []byte{}, Lines: [][]byte{}},
		{Lines: [][]byte{nil, {}, nil}},
		{State: 2, Part: []byte("o"), Log: []byte("pass?ok\r\n> "), Lines: texts("root", "secret")},
		{State: -1, Part: []byte("ro"), Log: []byte("\x15\n\x00"), Lines: texts("", "\n", "\x15", long)},
		{State: math.MaxInt, Part: []byte("a\nb\x15c\x00\xff")},
		{State: math.MinInt, Part: []byte(long[:299]), Log: []byte(long)},
		{State: 1, Part: []byte(long), Lines: texts(long, long)},
		{State: 3, Part: []byte(long + "x"), Log: []byte(strings.Repeat("z", 5000)), Lines: slices.Repeat(texts("on", "off"), 500)},
		{State: 0, Part: []byte(long + long), Log: nil, Lines: slices.Repeat(texts(long+"y"), 3)},
	}
}

func TestExample(t *testing.T) {
	becomes(t, nil, peer.Peer{}, "hi\x15ok\n", device{lines: []string{"ok"}})
	becomes(t, nil, peer.Peer{}, "hi\x15ok", device{part: "ok"})
}

func TestOrdinaryDevice(t *testing.T) {
	becomes(t, ordinary(), peer.Peer{}, "\nroot\nsecret\non\non\noff\nquit\n", device{
		log:   "name?pass?ok\r\n> lit\n> dark\n> bye\n",
		lines: []string{"", "root", "secret", "on", "on", "off", "quit"},
	})
	becomes(t, ordinary(), peer.Peer{}, "roo\x15root\nsecret\no", device{
		state: 2, part: "o", log: "pass?ok\r\n> ", lines: []string{"root", "secret"},
	})
	becomes(t, ordinary(), devices()[3], "n\nhelp\noff\x15quit\nguest", device{
		state: 3, part: "guest", log: "pass?ok\r\n> lit\n> ", lines: []string{"root", "secret", "on", "help", "quit"},
	})
}

// Without bytes nothing happens, also where the Part would be a line that a rule has.
func TestNoBytes(t *testing.T) {
	for _, p := range devices() {
		for _, rules := range [][]peer.Rule{nil, {}, ordinary(), {rule(p.State, string(p.Part), "no", 7)}} {
			for _, b := range [][]byte{nil, {}} {
				if after := feeds(t, rules, p, b); !same(after, deviceOf(p)) {
					t.Errorf("Feed(%s, %s) without bytes: %s", told(rules), shown(deviceOf(p)), shown(deviceOf(after)))
				}
			}
		}
	}
}

func TestEachByteAlone(t *testing.T) {
	for _, p := range devices() {
		for c := range 256 {
			want := deviceOf(p)
			switch {
			case c == 10:
				want.lines, want.part = append(want.lines, want.part), ""
			case c == 21:
				want.part = ""
			case len(want.part) < 300:
				want.part += string([]byte{byte(c)})
			}
			becomes(t, nil, p, string([]byte{byte(c)}), want)
		}
	}
}

// A line stands in Lines without its byte 10, whether or not a rule has it.
func TestLineStandsInLines(t *testing.T) {
	for _, line := range []string{"go", "", " ", "go\r", "\x00", "\xff\xfe", "go go", strings.Repeat("g", 300)} {
		for _, rules := range [][]peer.Rule{nil, {rule(0, line, "ok", 4)}, {rule(0, line, "", 4)}, {rule(0, line+"?", "no", 5)}, {rule(1, line, "no", 5)}} {
			p := peer.Peer{Lines: texts("first", "")}
			want := []string{"first", "", line}
			if after := feeds(t, rules, p, []byte(line+"\n")); len(after.Part) > 0 || !slices.Equal(deviceOf(after).lines, want) {
				t.Errorf("Feed(%s, %q): %s", told(rules), line, shown(deviceOf(after)))
			}
		}
	}
}

// The Part that a device has is the beginning of its first line.
func TestPartBeginsTheLine(t *testing.T) {
	rules := []peer.Rule{rule(0, "golf", "whole", 1), rule(0, "lf", "end", 2), rule(0, "go", "begin", 3)}
	p := peer.Peer{Part: []byte("go")}
	becomes(t, rules, p, "lf\n", device{state: 1, log: "whole", lines: []string{"golf"}})
	becomes(t, rules, p, "\n", device{state: 3, log: "begin", lines: []string{"go"}})
	becomes(t, rules, p, "\x15lf\n", device{state: 2, log: "end", lines: []string{"lf"}})
	becomes(t, rules, p, "lf", device{part: "golf"})
}

func TestEmptyLines(t *testing.T) {
	becomes(t, nil, peer.Peer{}, "\n\n\n", device{lines: []string{"", "", ""}})
	becomes(t, nil, peer.Peer{Part: []byte("a")}, "\n\n", device{lines: []string{"a", ""}})
	for _, line := range [][]byte{nil, {}} {
		rules := []peer.Rule{{State: 0, Line: line, Out: []byte("."), Next: 1}, {State: 1, Line: line, Out: line, Next: 2}}
		becomes(t, rules, peer.Peer{}, "\n", device{state: 1, log: ".", lines: []string{""}})
		becomes(t, rules, peer.Peer{}, "\n\n\n", device{state: 2, log: ".", lines: []string{"", "", ""}})
		becomes(t, rules, peer.Peer{}, "x\x15\n", device{state: 1, log: ".", lines: []string{""}})
		becomes(t, rules, peer.Peer{}, "x\n", device{lines: []string{"x"}})
	}
}

// A rule with an empty Line answers empty lines, but no byte 21, no incomplete line, and no other line.
func TestRuleOfTheEmptyLine(t *testing.T) {
	rules := []peer.Rule{rule(0, "", "empty", 1)}
	for _, s := range []string{"", "\x15", "\x15\x15", "a", "a\x15", "a\n", " \n", "\r\n", "a\nb\n\x15c"} {
		if after := feeds(t, rules, peer.Peer{}, []byte(s)); after.State != 0 || len(after.Log) > 0 {
			t.Errorf("Feed(%q): %s", s, shown(deviceOf(after)))
		}
	}
}

// A rule answers in its State alone.
func TestRuleAnswersInItsState(t *testing.T) {
	states := []int{0, 1, -1, 2, 255, 256, -256, 1 << 31, -1 << 31, 1 << 32, 1<<32 + 1, -1 << 32, math.MaxInt, math.MaxInt - 1, math.MinInt, math.MinInt + 1}
	for _, of := range states {
		for _, at := range states {
			for _, next := range []int{0, 5, -5, at, of, math.MaxInt, math.MinInt, 1 << 32} {
				want := device{state: at, log: "so ", lines: []string{"go"}}
				if of == at {
					want.state, want.log = next, "so on"
				}
				becomes(t, []peer.Rule{rule(of, "go", "on", next)}, peer.Peer{State: at, Log: []byte("so ")}, "go\n", want)
			}
		}
	}
}

// A rule answers its Line alone, not one that begins or ends so, or that is alike.
func TestRuleAnswersItsLine(t *testing.T) {
	rules := []peer.Rule{rule(0, "go on", "ok", 1)}
	becomes(t, rules, peer.Peer{}, "go on\n", device{state: 1, log: "ok", lines: []string{"go on"}})
	for _, line := range []string{
		"", "g", "go", "go ", "go o", "o on", "on", "n", " ", "go on ", " go on", "go on\r", "go on\x00", "\x00go on", "go on on", "go go on",
		"go ongo on", "Go on", "GO ON", "go  on", "goon", "go on.", "no go", "og no", "go oN", "go_on", "xo on", "go ox", "gx on", strings.Repeat("go on", 60),
	} {
		becomes(t, rules, peer.Peer{}, line+"\n", device{lines: []string{line}})
		becomes(t, []peer.Rule{rule(0, line, "no", 2), rules[0]}, peer.Peer{}, "go on\n", device{state: 1, log: "ok", lines: []string{"go on"}})
	}
}

// Any change of one byte of a line makes it another one.
func TestLinesThatDifferInOneByte(t *testing.T) {
	line := "a\x00\x80\xff\r"
	rules := []peer.Rule{rule(0, line, "ok", 1)}
	for i := range len(line) {
		for c := range 256 {
			if c == 10 || c == 21 {
				continue
			}
			other := line[:i] + string([]byte{byte(c)}) + line[i+1:]
			want := device{lines: []string{other}}
			if other == line {
				want.state, want.log = 1, "ok"
			}
			becomes(t, rules, peer.Peer{}, other+"\n", want)
		}
	}
}

// Of several rules with the same State and Line the first one counts, also if it does nothing.
func TestFirstRuleCounts(t *testing.T) {
	other := []peer.Rule{rule(1, "go", "one", 11), rule(0, "gone", "two", 12), rule(0, "g", "three", 13)}
	several := []peer.Rule{rule(0, "go", "a", 1), rule(0, "go", "", 0), rule(0, "go", "c", 3), rule(0, "go", "a", 4)}
	for i, first := range several {
		for at := range len(other) + 1 {
			behind := slices.Concat(several[i+1:], several[:i])
			rules := slices.Concat(other[:at], []peer.Rule{first}, other[at:], behind)
			becomes(t, rules, peer.Peer{}, "go\n", device{state: first.Next, log: string(first.Out), lines: []string{"go"}})
		}
	}
}

func TestFirstOfManyRules(t *testing.T) {
	for _, size := range []int{1, 2, 20, 21, 100, 1000} {
		for _, first := range []int{0, 1, size / 2, size - 2, size - 1} {
			if first < 0 || first >= size {
				continue
			}
			rules := make([]peer.Rule, size)
			for i := range rules {
				rules[i] = rule(5, "go", fmt.Sprint(i), i+6)
				if i < first {
					rules[i].State = 4
				}
			}
			becomes(t, rules, peer.Peer{State: 5}, "go\ngo\n", device{state: first + 6, log: fmt.Sprint(first), lines: []string{"go", "go"}})
		}
	}
}

// The State that a rule leads to holds for the next line already, but not for the same one again.
func TestNextStateHolds(t *testing.T) {
	rules := []peer.Rule{rule(0, "go", "a", 1), rule(1, "go", "b", 2), rule(2, "go", "c", 0), rule(2, "stay", "d", 2), rule(2, "back", "e", -7), rule(-7, "go", "f", 0)}
	becomes(t, rules, peer.Peer{}, "go\n", device{state: 1, log: "a", lines: []string{"go"}})
	becomes(t, rules, peer.Peer{}, "go\ngo\n", device{state: 2, log: "ab", lines: []string{"go", "go"}})
	becomes(t, rules, peer.Peer{}, "go\ngo\ngo\n", device{state: 0, log: "abc", lines: []string{"go", "go", "go"}})
	becomes(t, rules, peer.Peer{}, "go\ngo\nstay\nback\nback\ngo\ngo\n", device{
		state: 1, log: "abdefa", lines: []string{"go", "go", "stay", "back", "back", "go", "go"},
	})
	slices.Reverse(rules)
	becomes(t, rules, peer.Peer{}, "go\ngo\nstay\nback\nback\ngo\ngo\n", device{
		state: 1, log: "abdefa", lines: []string{"go", "go", "stay", "back", "back", "go", "go"},
	})
}

// What a device outputs is not received, whatever bytes it has, and stands in Log behind what was there.
func TestOuts(t *testing.T) {
	for _, out := range []string{"", "x", "\n", "\x15", "a\nb\x15c\n", "go\n", "\x00\xff", strings.Repeat("long\n", 2000)} {
		rules := []peer.Rule{rule(0, "go", out, 0)}
		for _, log := range []string{"", "go\n", "\x15", strings.Repeat("l", 5000)} {
			becomes(t, rules, peer.Peer{Log: []byte(log)}, "go\ngo\nno\nx", device{part: "x", log: log + out + out, lines: []string{"go", "go", "no"}})
		}
	}
	becomes(t, []peer.Rule{{Line: []byte("go"), Next: 3}}, peer.Peer{Log: []byte("a")}, "go\n", device{state: 3, log: "a", lines: []string{"go"}})
}

// Byte 21 empties Part, and changes nothing else.
func TestByte21(t *testing.T) {
	for _, p := range devices() {
		for _, rules := range [][]peer.Rule{nil, ordinary(), {rule(p.State, string(p.Part), "no", 7), rule(p.State, "", "no", 7), rule(p.State, "\x15", "no", 7)}} {
			for _, s := range []string{"\x15", "\x15\x15", "abc\x15", "\x15abc\x15", strings.Repeat("y", 400) + "\x15"} {
				want := deviceOf(p)
				want.part = ""
				becomes(t, rules, p, s, want)
				want.part = "z"
				becomes(t, rules, p, s+"z", want)
			}
		}
	}
}

// Lines that are complete stay, whatever is discarded.
func TestByte21AtEachPlace(t *testing.T) {
	rules := []peer.Rule{rule(0, "ab", "1", 0), rule(0, "b", "2", 0), rule(0, "", "3", 0), rule(0, "cd", "4", 1), rule(0, "d", "5", 0), rule(1, "ef", "6", 0), rule(0, "ef", "7", 0)}
	for i, want := range []device{
		{part: "g", log: "146", lines: []string{"ab", "cd", "ef"}},
		{part: "g", log: "246", lines: []string{"b", "cd", "ef"}},
		{part: "g", log: "346", lines: []string{"", "cd", "ef"}},
		{part: "g", log: "146", lines: []string{"ab", "cd", "ef"}},
		{part: "g", log: "157", lines: []string{"ab", "d", "ef"}},
		{part: "g", log: "137", lines: []string{"ab", "", "ef"}},
		{part: "g", log: "146", lines: []string{"ab", "cd", "ef"}},
		{state: 1, part: "g", log: "14", lines: []string{"ab", "cd", "f"}},
		{state: 1, part: "g", log: "14", lines: []string{"ab", "cd", ""}},
		{part: "g", log: "146", lines: []string{"ab", "cd", "ef"}},
		{log: "146", lines: []string{"ab", "cd", "ef"}},
	} {
		s := "ab\ncd\nef\ng"
		becomes(t, rules, peer.Peer{}, s[:i]+"\x15"+s[i:], want)
	}
}

// A byte is lost where Part has 300 bytes or more; 10 and 21 still act.
func TestLostBytes(t *testing.T) {
	letters := strings.Repeat("abcdefghij", 200)
	for _, had := range []int{0, 1, 298, 299, 300, 301, 302, 1000} {
		for _, more := range []int{0, 1, 2, 298, 299, 300, 301, 302, 600} {
			p := peer.Peer{Part: []byte(strings.ToUpper(letters[:had])), Log: []byte("log")}
			line := string(p.Part) + letters[:max(min(more, 300-had), 0)]
			s := letters[:more]
			becomes(t, nil, p, s, device{part: line, log: "log"})
			becomes(t, nil, p, s+"\n", device{log: "log", lines: []string{line}})
			becomes(t, nil, p, s+"\x15", device{log: "log"})
			becomes(t, nil, p, s+"\nnext", device{part: "next", log: "log", lines: []string{line}})
			becomes(t, nil, p, s+"\x15next\n", device{log: "log", lines: []string{"next"}})
			becomes(t, nil, p, s+"\n"+letters[:400]+"\n", device{log: "log", lines: []string{line, letters[:300]}})
			becomes(t, nil, p, s+"\x15"+letters[:400]+"\n", device{log: "log", lines: []string{letters[:300]}})
		}
	}
}

// A rule goes by the line that remains when bytes were lost.
func TestRulesOfLongLines(t *testing.T) {
	long := strings.Repeat("abcdefghij", 40)
	rules := []peer.Rule{rule(0, long[:299], "a", 1), rule(0, long[:300], "b", 2), rule(0, long[:301], "c", 3), rule(0, long, "d", 4)}
	for _, c := range []struct {
		part, more, log, line string
		state                 int
	}{
		{"", long[:298], "", long[:298], 0},
		{"", long[:299], "a", long[:299], 1},
		{"", long[:300], "b", long[:300], 2},
		{"", long[:301], "b", long[:300], 2},
		{"", long, "b", long[:300], 2},
		{long[:299], "j", "b", long[:300], 2},
		{long[:299], "x", "", long[:299] + "x", 0},
		{long[:300], "", "b", long[:300], 2},
		{long[:300], "xyz", "b", long[:300], 2},
		{long[:301], "", "c", long[:301], 3},
		{long[:301], "xyz", "c", long[:301], 3},
		{long, "", "d", long, 4},
	} {
		becomes(t, rules, peer.Peer{Part: []byte(c.part)}, c.more+"\n", device{state: c.state, log: c.log, lines: []string{c.line}})
	}
}

// Bytes 10 and 21 in the Part that a device has act no more: they are bytes of its line.
func TestPartWithAnyBytes(t *testing.T) {
	for _, part := range []string{"\n", "\x15", "a\nb", "a\x15b", "\n\n", "\x15\x15\n", "go\n"} {
		rules := []peer.Rule{rule(0, "", "no", 1), rule(0, "go", "no", 1), rule(0, "b", "no", 1), rule(0, part, "ok", 2), rule(0, part+"c", "more", 3)}
		p := peer.Peer{Part: []byte(part)}
		becomes(t, rules, p, "\n", device{state: 2, log: "ok", lines: []string{part}})
		becomes(t, rules, p, "c\n", device{state: 3, log: "more", lines: []string{part + "c"}})
		becomes(t, rules, p, "\x15", device{})
		becomes(t, rules, p, "", device{part: part})
	}
}

// A rule whose Line has a byte 10 or 21 answers nothing that was received as a whole.
func TestRulesWithBytes10And21(t *testing.T) {
	rules := []peer.Rule{rule(0, "a\n", "1", 1), rule(0, "\n", "2", 2), rule(0, "a\x15b", "3", 3), rule(0, "\x15b", "4", 4), rule(0, "a\nb", "5", 5)}
	becomes(t, rules, peer.Peer{}, "a\n\na\x15b\na\nb\n", device{lines: []string{"a", "", "b", "a", "b"}})
	becomes(t, append(rules, rule(0, "b", "6", 6)), peer.Peer{}, "a\n\na\x15b\n", device{state: 6, log: "6", lines: []string{"a", "", "b"}})
}

// P17.2 for a device and bytes, cut at each place, and byte by byte.
func TestBytesInParts(t *testing.T) {
	long := strings.Repeat("l", 299)
	for _, s := range []string{
		"", "a", "\n", "\x15", "\nroot\nsec\x15secret\non\non\noff\nquit\n\x15\n\nroot", long + "\n", long + "12\n" + long + "1\x152\n", "n\nff\noff\n",
	} {
		for _, p := range devices() {
			for _, rules := range [][]peer.Rule{nil, ordinary()} {
				whole := deviceOf(feeds(t, rules, p, []byte(s)))
				single := p
				for i := range len(s) + 1 {
					first := feeds(t, rules, p, []byte(s[:i]))
					becomes(t, rules, first, s[i:], whole)
					if !same(single, deviceOf(first)) {
						t.Fatalf("%q byte by byte: %s, not %s", s[:i], shown(deviceOf(single)), shown(deviceOf(first)))
					}
					if i < len(s) {
						single = peer.Feed(rules, single, []byte{s[i]})
					}
				}
			}
		}
	}
}

// The bytes of an incomplete line ahead of a byte 21 make no difference.
func TestBytesAheadOf21(t *testing.T) {
	for _, p := range devices() {
		for _, before := range []string{"", "root\n", "a\x15", "ro", "\n", "x\nroot\nsecret\no"} {
			for _, behind := range []string{"", "on\n", "root\nsecret\n", "\x15", "\n", "x"} {
				want := deviceOf(feeds(t, ordinary(), p, []byte(before+"\x15"+behind)))
				for _, lost := range []string{"a", "root", "secret", "on", "\x15", "ro\x15ot", "\x00\xff\r", strings.Repeat("z", 299), strings.Repeat("z", 301), strings.Repeat("z", 1000)} {
					becomes(t, ordinary(), p, before+lost+"\x15"+behind, want)
				}
			}
		}
	}
}

// A complete line is not of these bytes: it makes a difference.
func TestLinesAheadOf21(t *testing.T) {
	becomes(t, ordinary(), peer.Peer{}, "\x15secret\n", device{lines: []string{"secret"}})
	becomes(t, ordinary(), peer.Peer{}, "root\n\x15secret\n", device{state: 2, log: "pass?ok\r\n> ", lines: []string{"root", "secret"}})
}

// Many lines, and long ones, at once.
func TestManyBytes(t *testing.T) {
	many := feeds(t, ordinary(), peer.Peer{State: 2}, bytes.Repeat([]byte("on\noff\n"), 4000))
	if many.State != 2 || len(many.Lines) != 8000 || string(many.Log) != strings.Repeat("lit\n> dark\n> ", 4000) {
		t.Errorf("state %d, %d lines, log of %d", many.State, len(many.Lines), len(many.Log))
	}
	becomes(t, ordinary(), peer.Peer{}, strings.Repeat("x", 1000000), device{part: strings.Repeat("x", 300)})
	becomes(t, ordinary(), peer.Peer{}, strings.Repeat("x\x15", 100000), device{})
	empty := feeds(t, nil, peer.Peer{}, bytes.Repeat([]byte("\n"), 100000))
	if len(empty.Lines) != 100000 {
		t.Errorf("%d lines", len(empty.Lines))
	}
	rules := make([]peer.Rule, 1000000)
	rules[999999] = rule(1, "go", "far", 2)
	becomes(t, rules, peer.Peer{State: 1}, "go\n", device{state: 2, log: "far", lines: []string{"go"}})
}
