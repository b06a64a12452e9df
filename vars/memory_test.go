package vars_test

import (
	"bytes"
	"fmt"
	"slices"
	"strings"
	"testing"

	"davit/api"
	"davit/vars"
)

// call is what Names and Fill are given in one go.
type call struct {
	text          string
	names, values []string
}

func (c call) String() string {
	return fmt.Sprintf("%s with %s as %s", shown(c.text), shownAll(c.names), shownAll(c.values))
}

// some has calls of each kind and with each error, among them those whose answer has the same bytes as an argument.
var some = []call{
	{},
	{"show version", nil, nil},
	{"show version", []string{"a", "b"}, []string{"x", "y"}},
	{"a$$b$v", []string{"v"}, []string{"x"}},
	{"$v", []string{"v"}, []string{"x"}},
	{"$v", []string{"v"}, []string{strings.Repeat("x", 200)}},
	{"$v", []string{"v"}, nil},
	{"$v", []string{"w", "v", "v"}, []string{"x", "show version", "z"}},
	{"$a$b$a", []string{"b", "a"}, []string{"show", "version"}},
	{"$a$a$$$a", []string{"a"}, []string{"$a"}},
	{"a\nb\rc\x15d", nil, nil},
	{"$v\n", []string{"v", ""}, []string{"\ra\nb\x15", "", "z"}},
	{strings.Repeat("x", 200), nil, nil},
	{strings.Repeat("x", 201), nil, nil},
	{"$a $b $", []string{"a", "b"}, []string{"x", "y"}},
	{"$a $b $c", []string{"a", "b"}, []string{"x", "y"}},
	{"$v$v$v", []string{"v"}, []string{strings.Repeat("x", 70)}},
	{strings.Repeat("$v", 150), []string{"v"}, []string{"y"}},
}

// answer is what both calls return.
type answer struct {
	names []string
	at    int
	line  string
	e, f  api.Errno
}

func (a answer) same(b answer) bool {
	return slices.Equal(a.names, b.names) && a.at == b.at && a.line == b.line && a.e == b.e && a.f == b.f
}

// made returns the answer to a call.
func (c call) made() answer {
	names, at, e := vars.Names([]byte(c.text))
	line, f := vars.Fill([]byte(c.text), c.names, list(c.values))
	return answer{names, at, string(line), e, f}
}

// roomy returns the bytes of s with others behind them, in one piece of memory, so that an append to them would be seen.
func roomy(s string) []byte {
	return append([]byte(s), "\x01\x02\x03\x04\x05\x06\x07\x08"...)
}

// given is the memory of a call's arguments: all of it, and how it was.
type given struct {
	text, textBefore     []byte
	names, namesBefore   []string
	values, valuesBefore [][]byte
}

func (c call) give() given {
	g := given{text: roomy(c.text), names: append(slices.Clone(c.names), "one", "two", "three")}
	for _, v := range append(slices.Clone(c.values), "one", "two", "three") {
		g.values = append(g.values, roomy(v))
	}
	g.textBefore, g.namesBefore = bytes.Clone(g.text), slices.Clone(g.names)
	for _, v := range g.values {
		g.valuesBefore = append(g.valuesBefore, bytes.Clone(v))
	}
	return g
}

// arguments returns the arguments that lie in this memory.
func (c call) arguments(g given) ([]byte, []string, [][]byte) {
	values := g.values[:len(c.values)]
	for i, v := range values {
		values[i] = v[:len(c.values[i])]
	}
	return g.text[:len(c.text)], g.names[:len(c.names)], values
}

// isAsBefore reports whether nothing in this memory changed.
func (c call) isAsBefore(g given) bool {
	whole := func(v []byte, size int) []byte { return v[:min(size, cap(v))] }
	same := bytes.Equal(g.text, g.textBefore) && slices.Equal(g.names, g.namesBefore) && len(g.values) == len(g.valuesBefore)
	for i, v := range g.values {
		same = same && bytes.Equal(whole(v, len(g.valuesBefore[i])), g.valuesBefore[i])
		same = same && (i >= len(c.values) || len(v) == len(c.values[i]))
	}
	return same
}

// spoil changes all of this memory.
func (g given) spoil() {
	for i := range g.text {
		g.text[i] = '?'
	}
	for i := range g.names {
		g.names[i] = "?"
	}
	for _, v := range g.values {
		for i := range v {
			v[i] = '?'
		}
	}
	clear(g.values)
}

func TestArgumentsAreLeftAlone(t *testing.T) {
	for _, c := range some {
		g := c.give()
		text, names, values := c.arguments(g)
		found, at, e := vars.Names(text)
		line, f := vars.Fill(text, names, values)
		if !c.isAsBefore(g) {
			t.Fatalf("%v: the arguments were changed to %q, %q, %q", c, g.text, g.names, g.values)
		}
		// If the answers or a later call used the arguments' memory, they would change with it.
		before := answer{slices.Clone(found), at, string(line), e, f}
		for i, name := range before.names {
			before.names[i] = strings.Clone(name)
		}
		g.spoil()
		if after := (answer{found, at, string(line), e, f}); !after.same(before) {
			t.Fatalf("%v: %v changed with the arguments to %v", c, before, after)
		}
		if again := c.made(); !again.same(before) {
			t.Fatalf("%v: %v, and later %v", c, before, again)
		}
	}
}

func TestAnswersAreNewMemory(t *testing.T) {
	for _, c := range some {
		want := c.made()
		g := c.give()
		text, names, values := c.arguments(g)
		first, _, _ := vars.Names(text)
		second, _, _ := vars.Names(text)
		one, _ := vars.Fill(text, names, values)
		other, _ := vars.Fill(text, names, values)
		// Whoever appends to an answer, or writes to it, must change no other one, and no argument.
		_ = append(first, "?", "?", "?", "?")
		_ = append(one, "????????"...)
		clear(first)
		clear(one)
		if !c.isAsBefore(g) {
			t.Fatalf("%v: the answers share memory with the arguments", c)
		}
		if !slices.Equal(second, want.names) || string(other) != want.line {
			t.Fatalf("%v: the answers of two calls share memory", c)
		}
		if again := c.made(); !again.same(want) {
			t.Fatalf("%v: %v, and later %v", c, want, again)
		}
	}
}

// The same text may be given as a value too, and one value for several names.
func TestArgumentsThatShareMemory(t *testing.T) {
	text := []byte("a$v$w\n")
	before := bytes.Clone(text)
	for range 3 {
		line, e := vars.Fill(text, []string{"v", "w"}, [][]byte{text, text[:3]})
		if string(line) != "aa$v$wa$v" || e != api.OK || !bytes.Equal(text, before) {
			t.Fatalf("Fill: %q, error %d; the text is now %q", line, e, text)
		}
	}
}

func TestEarlierCallsDoNotMatter(t *testing.T) {
	n := numbers(4)
	calls := slices.Clone(some)
	for range 60 {
		names, values := n.lists()
		calls = append(calls, call{n.text(n.below(8)), names, values})
		// The same text with other names and values, and the other way round.
		last := calls[n.below(len(calls))]
		calls = append(calls, call{last.text, names, values}, call{n.rightText(3), last.names, last.values})
	}
	for _, c := range calls {
		want := c.made()
		for _, other := range calls {
			other.made()
			if again := c.made(); !again.same(want) {
				t.Fatalf("%v: %v; behind %v %v", c, want, other, again)
			}
		}
	}
}

// The same memory with other bytes in it is another argument.
func TestMemoryThatIsUsedAgain(t *testing.T) {
	text, value := make([]byte, 4), make([]byte, 2)
	names := make([]string, 1)
	for i := range 200 {
		name := letters[i%26 : i%26+1]
		copy(text, "$"+name+".$")
		copy(value, fmt.Sprintf("%02d", i%100))
		names[0] = name
		if found, at, e := vars.Names(text); len(found) != 0 || at != 3 || e != api.ErrForm {
			t.Fatalf("Names(%q): %q, %d, error %d", text, found, at, e)
		}
		text[3] = '-'
		if found, at, e := vars.Names(text); !slices.Equal(found, names) || at != 0 || e != api.OK {
			t.Fatalf("Names(%q): %q, %d, error %d", text, found, at, e)
		}
		if line, e := vars.Fill(text, names, [][]byte{value}); string(line) != string(value)+".-" || e != api.OK {
			t.Fatalf("Fill(%q): %q, error %d", text, line, e)
		}
		names[0] = "?"
		if line, e := vars.Fill(text, names, [][]byte{value}); len(line) != 0 || e != api.ErrName {
			t.Fatalf("Fill(%q): %q, error %d", text, line, e)
		}
	}
}

// Calls that go on at the same time do not touch each other, also if they are given the same memory.
func TestCallsAtTheSameTime(t *testing.T) {
	results := make(chan string)
	text, names := []byte("$a.$b\n$$"), []string{"a", "b"}
	for i := range 8 {
		go func() {
			told := ""
			for range 500 {
				found, at, e := vars.Names(text)
				line, f := vars.Fill(text, names, list([]string{fmt.Sprint(i), "x"}))
				own, g := vars.Fill([]byte(strings.Repeat("$b", i)), names, list([]string{"x", "yz"}))
				told = fmt.Sprint(i, found, at, e, string(line), f, string(own), g)
			}
			results <- told
		}()
	}
	var got []string
	for range 8 {
		got = append(got, <-results)
	}
	slices.Sort(got)
	for i, told := range got {
		if want := fmt.Sprint(i, names, 0, api.OK, fmt.Sprintf("%d.x$", i), api.OK, strings.Repeat("yz", i), api.OK); told != want {
			t.Errorf("the calls returned %q, not %q", told, want)
		}
	}
}
