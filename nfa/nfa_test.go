package nfa_test

import (
	"fmt"
	"math"
	"slices"
	"strings"
	"testing"

	"davit/api"
	"davit/nfa"
	"davit/regex"
)

// The calls have exactly these signatures, and the kinds have these numbers.
var (
	_ func([]regex.Op) ([]nfa.Inst, api.Errno) = nfa.Build
	_ func(nfa.Inst, byte) bool                = nfa.Has

	_ = struct {
		Kind, X, Y int
		Not        bool
		Spans      []regex.Span
	}(nfa.Inst{})

	_ = [1]int{}[nfa.One-1]
	_ = [1]int{}[nfa.Two-2]
	_ = [1]int{}[nfa.Go-3]
	_ = [1]int{}[nfa.Done-4]
)

// numbers yields the same numbers in every test run.
type numbers uint64

func (n *numbers) below(most int) int {
	*n = *n*6364136223846793005 + 1442695040888963407
	return int(uint32(*n>>33)) % most
}

// kindsOf are the characters by which the tests write ops down; any other one is a Set of that byte.
const kindsOf = "0&|*+?"

// ops returns the ops that are written down.
func ops(s string) []regex.Op {
	var l []regex.Op
	for _, c := range []byte(s) {
		if kind := strings.IndexByte(kindsOf, c); kind >= 0 {
			l = append(l, regex.Op{Kind: regex.None + kind})
		} else {
			l = append(l, regex.Op{Kind: regex.Set, Spans: []regex.Span{span(c, c)}})
		}
	}
	return l
}

// insts returns the instructions that are written down: T1,3 is a Two with X 1 and Y 3, G-2 a Go with X -2, a letter a One; at the end Done.
func insts(t *testing.T, s string) []nfa.Inst {
	t.Helper()
	var l []nfa.Inst
	for _, word := range strings.Fields(s) {
		var x, y int
		if _, err := fmt.Sscanf(word, "T%d,%d", &x, &y); err == nil {
			l = append(l, two(x, y))
		} else if _, err := fmt.Sscanf(word, "G%d", &x); err == nil {
			l = append(l, leap(x))
		} else if len(word) == 1 {
			l = append(l, one(span(word[0], word[0])))
		} else {
			t.Fatalf("%q is no instruction", word)
		}
	}
	return append(l, nfa.Inst{Kind: nfa.Done})
}

// yields checks that these instructions are built of l.
func yields(t *testing.T, l []regex.Op, want []nfa.Inst) {
	t.Helper()
	got, e := nfa.Build(l)
	if e != api.OK || !sameInsts(got, want) {
		t.Fatalf("Build(%s): %v, error %d, not %v", short(l), got, e, want)
	}
	leadsSomewhere(t, got)
}

// leadsSomewhere checks what P9.2 says of all instructions, and that Done is the last one and no other.
func leadsSomewhere(t *testing.T, l []nfa.Inst) {
	t.Helper()
	for i, x := range l {
		switch {
		case x.Kind == nfa.Done && i == len(l)-1:
		case x.Kind == nfa.One && i < len(l)-1:
		case x.Kind == nfa.Go && isIndex(l, i+x.X):
		case x.Kind == nfa.Two && isIndex(l, i+x.X) && isIndex(l, i+x.Y):
		default:
			t.Fatalf("the instruction %d of %v leads nowhere", i, l)
		}
	}
	if len(l) == 0 || l[len(l)-1].Kind != nfa.Done {
		t.Fatalf("%v does not end with Done", l)
	}
}

func isIndex(l []nfa.Inst, i int) bool {
	return i >= 0 && i < len(l)
}

// fails checks that Build returns this error, and no instructions.
func fails(t *testing.T, l []regex.Op, want api.Errno) {
	t.Helper()
	if got, e := nfa.Build(l); len(got) != 0 || e != want {
		t.Fatalf("Build(%s): %v, error %d, not error %d", short(l), got, e, want)
	}
}

// agrees checks Build against the words of the chapter, and returns the error that both return.
func agrees(t *testing.T, l []regex.Op) api.Errno {
	t.Helper()
	want, e := slowBuild(l)
	if e == api.OK {
		yields(t, l, want)
	} else {
		fails(t, l, e)
	}
	return e
}

// short tells of ops in a message.
func short(l []regex.Op) string {
	if len(l) <= 60 {
		return fmt.Sprint(l)
	}
	return fmt.Sprint(l[:30], " .. ", len(l), " ops .. ", l[len(l)-30:])
}

func TestExample(t *testing.T) {
	l, _, _ := regex.Parse([]byte("a|b"))
	yields(t, l, []nfa.Inst{
		{Kind: nfa.Two, X: 1, Y: 3},
		{Kind: nfa.One, Spans: []regex.Span{{From: 'a', To: 'a'}}},
		{Kind: nfa.Go, X: 2},
		{Kind: nfa.One, Spans: []regex.Span{{From: 'b', To: 'b'}}},
		{Kind: nfa.Done},
	})
}

func TestEachKind(t *testing.T) {
	for s, want := range map[string]string{
		"a": "a",
		"0": "",

		"ab&": "a b",
		"0a&": "a",
		"a0&": "a",
		"00&": "",

		"ab|": "T1,3 a G2 b",
		"0a|": "T1,2 G2 a",
		"a0|": "T1,3 a G1",
		"00|": "T1,2 G1",

		"a*": "T1,3 a G-2",
		"0*": "T1,2 G-1",
		"a+": "a T-1,1",
		"0+": "T0,1",
		"a?": "T1,2 a",
		"0?": "T1,1",
	} {
		yields(t, ops(s), insts(t, want))
	}
}

func TestWithinEachOther(t *testing.T) {
	for s, want := range map[string]string{
		"ab&c&":   "a b c",
		"abc&&":   "a b c",
		"ab&cd&&": "a b c d",

		"ab|c|":   "T1,6 T1,3 a G2 b G2 c",
		"abc||":   "T1,3 a G5 T1,3 b G2 c",
		"ab&cd&|": "T1,4 a b G3 c d",
		"ab|cd|&": "T1,3 a G2 b T1,3 c G2 d",
		"00|0|":   "T1,4 T1,2 G1 G1",
		"000||":   "T1,2 G3 T1,2 G1",
		"00|00|&": "T1,2 G1 T1,2 G1",

		"a**": "T1,5 T1,3 a G-2 G-4",
		"a*+": "T1,3 a G-2 T-3,1",
		"a*?": "T1,4 T1,3 a G-2",
		"a+*": "T1,4 a T-1,1 G-3",
		"a++": "a T-1,1 T-2,1",
		"a+?": "T1,3 a T-1,1",
		"a?*": "T1,4 T1,2 a G-3",
		"a?+": "T1,2 a T-2,1",
		"a??": "T1,3 T1,2 a",

		"0**": "T1,4 T1,2 G-1 G-3",
		"0*+": "T1,2 G-1 T-2,1",
		"0*?": "T1,3 T1,2 G-1",
		"0+*": "T1,3 T0,1 G-2",
		"0++": "T0,1 T-1,1",
		"0+?": "T1,2 T0,1",
		"0?*": "T1,3 T1,1 G-2",
		"0?+": "T1,1 T-1,1",
		"0??": "T1,2 T1,1",

		"a*b&": "T1,3 a G-2 b",
		"ab*&": "a T1,3 b G-2",
		"a+b&": "a T-1,1 b",
		"ab+&": "a b T-1,1",
		"a?b&": "T1,2 a b",
		"ab?&": "a T1,2 b",
		"ab&*": "T1,4 a b G-3",
		"ab&+": "a b T-2,1",
		"ab&?": "T1,3 a b",

		"ab|*":  "T1,6 T1,3 a G2 b G-5",
		"ab|+":  "T1,3 a G2 b T-4,1",
		"ab|?":  "T1,5 T1,3 a G2 b",
		"a*b|":  "T1,5 T1,3 a G-2 G2 b",
		"ab*|":  "T1,3 a G4 T1,3 b G-2",
		"a+b?|": "T1,4 a T-1,1 G3 T1,2 b",
		"0*0+|": "T1,4 T1,2 G-1 G2 T0,1",
		"00&*":  "T1,2 G-1",
		"00|+":  "T1,2 G1 T-2,1",

		// The sequences further down remain as they are.
		"xab|&":       "x T1,3 a G2 b",
		"x*yab|*&&":   "T1,3 x G-2 y T1,6 T1,3 a G2 b G-5",
		"xy+0ab?||&&": "x y T-1,1 T1,2 G6 T1,3 a G3 T1,2 b",
	} {
		yields(t, ops(s), insts(t, want))
	}
}

func TestFieldsThatAreNotMentioned(t *testing.T) {
	for s, want := range map[string]string{
		"0": "", "ab&": "a b", "ab|": "T1,3 a G2 b", "a*": "T1,3 a G-2", "a+": "a T-1,1", "a?": "T1,2 a",
		"a*b+|c?0&&": "T1,5 T1,3 a G-2 G3 b T-1,1 T1,2 c",
	} {
		l := ops(s)
		for i := range l {
			if l[i].Kind != regex.Set {
				l[i].Not, l[i].Spans = true, []regex.Span{span('x', 'z'), span(9, 3)}
			}
		}
		yields(t, l, insts(t, want))
	}
}

func manySpans(size int) []regex.Span {
	l := make([]regex.Span, size)
	for i := range l {
		l[i] = span(byte(i), byte(i*i/7))
	}
	return l
}

func TestSpansAndNot(t *testing.T) {
	for _, spans := range [][]regex.Span{
		nil,
		{},
		{span('a', 'a')},
		{span(0, 255)},
		{span(0, 0)},
		{span(255, 255)},
		{span('b', 'a')},
		{span(255, 0)},
		{span('a', 'c'), span('b', 'd')},
		{span('a', 'c'), span('a', 'c')},
		{span('x', 'z'), span('b', 'a'), span('a', 'c'), span(0, 0)},
		manySpans(256),
		manySpans(100000),
	} {
		for _, not := range []bool{false, true} {
			op := regex.Op{Kind: regex.Set, Not: not, Spans: spans}
			x := nfa.Inst{Kind: nfa.One, Not: not, Spans: spans}
			done := nfa.Inst{Kind: nfa.Done}
			yields(t, []regex.Op{op}, []nfa.Inst{x, done})
			yields(t, []regex.Op{op, {Kind: regex.Star}}, []nfa.Inst{two(1, 3), x, leap(-2), done})

			y := nfa.Inst{Kind: nfa.One, Not: !not, Spans: []regex.Span{span(1, 2)}}
			other := regex.Op{Kind: regex.Set, Not: !not, Spans: []regex.Span{span(1, 2)}}
			yields(t, []regex.Op{op, other, {Kind: regex.Alt}}, []nfa.Inst{two(1, 3), x, leap(2), y, done})
			yields(t, []regex.Op{other, op, {Kind: regex.Cat}}, []nfa.Inst{y, x, done})
		}
	}
}

func noKinds() []int {
	return []int{0, 8, 9, 10, 255, 256, 257, -1, -2, -7, -255, 1<<16 + 1, 1<<31 - 1, 1 << 31, 1<<32 + 1, 1<<32 + 7, -(1 << 31), math.MaxInt, math.MaxInt - 1, math.MinInt, math.MinInt + 1, math.MinInt + 3}
}

func TestKinds(t *testing.T) {
	for kind := -300; kind <= 300; kind++ {
		// Each of the seven finds what it pops, and one sequence is left.
		lists := map[int]string{regex.Set: "a", regex.None: "0", regex.Cat: "ab&", regex.Alt: "ab|", regex.Star: "a*", regex.Plus: "a+", regex.Opt: "a?"}
		if s, ok := lists[kind]; ok {
			l := ops(s)
			l[len(l)-1].Kind = kind
			if _, e := nfa.Build(l); e != api.OK {
				t.Fatalf("kind %d: error %d", kind, e)
			}
			continue
		}
		fails(t, []regex.Op{{Kind: kind}}, api.ErrArg)
	}
	for _, kind := range noKinds() {
		bad := []regex.Op{{Kind: kind}}
		for _, s := range []string{"", "a", "0", "ab&", "ab|c*&", "a" + strings.Repeat("*", 50), "a" + strings.Repeat("+", 198), "a" + strings.Repeat("+", 199), "a" + strings.Repeat("*", 500), strings.Repeat("a", 300), strings.Repeat("a", 300) + strings.Repeat("|", 299)} {
			l := ops(s)
			for _, i := range []int{0, len(l) / 2, len(l)} {
				fails(t, slices.Insert(slices.Clone(l), i, bad...), api.ErrArg)
				fails(t, slices.Insert(slices.Clone(l), i, regex.Op{Kind: kind, Not: true, Spans: manySpans(3)}), api.ErrArg)
			}
			if len(l) > 0 {
				changed := slices.Clone(l)
				changed[len(l)/2].Kind = kind
				fails(t, changed, api.ErrArg)
			}
			fails(t, slices.Concat(l, bad, l, []regex.Op{{Kind: regex.Cat}}), api.ErrArg)
		}
	}
}

func TestNothingToPop(t *testing.T) {
	long := "a" + strings.Repeat("*", 300)
	for _, s := range []string{
		"&", "|", "*", "+", "?",
		"a&", "a|", "0&", "0|", "a*&", "a*|", "ab&&", "ab&|", "ab||", "ab|&", "0a&+|",
		// Behind these there would be one sequence, were it not for the op that has too few.
		"*a", "+a", "?a", "&a", "|a", "*0", "a&b", "a|b", "a&b&", "a|b|", "&ab&", "a&b|c|", "?a?",
		"xy&&z", "xy||z&",
		long + "&", long + "|", "&" + long, "*" + long, "a|" + long + "&",
	} {
		fails(t, ops(s), api.ErrArg)
	}
}

func TestSequencesLeft(t *testing.T) {
	fails(t, nil, api.ErrArg)
	fails(t, []regex.Op{}, api.ErrArg)
	for _, s := range []string{"ab", "a0", "0a", "00", "abc", "ab&c", "abc&", "a*b", "ab*", "ab|c", "a+b?", "ab|cd|", "00&0", "abcd&&e", "000", strings.Repeat("a", 1000), strings.Repeat("0", 1000), strings.Repeat("a", 1000) + strings.Repeat("&", 998), strings.Repeat("0", 1000) + strings.Repeat("&", 998)} {
		fails(t, ops(s), api.ErrArg)
	}
}

// chain returns the list that is written down as first, followed by count times next.
func chain(first, next string, count int) []regex.Op {
	return ops(first + strings.Repeat(next, count))
}

func TestLimit(t *testing.T) {
	// With Done there are exactly 200 instructions; one op more of any kind that makes some is too much.
	for _, l := range [][]regex.Op{
		chain("a", "*", 99),
		chain("a", "+", 198),
		chain("a", "?", 198),
		chain("0", "+", 199),
		chain("0", "?", 199),
		chain("0?", "*", 99),
		chain("0*", "?+", 98),
		chain("a", "b&", 198),
		chain("0a&", "b&", 198),
		chain("a", "0|", 99),
		chain("a", "b|", 66),
		chain("0+", "0|", 99),
		ops(strings.Repeat("a", 199) + strings.Repeat("&", 198)),
		ops("0?" + strings.Repeat("0", 99) + strings.Repeat("|", 99)),
		ops(strings.Repeat("ab|*", 33) + "a" + strings.Repeat("&", 33)),
	} {
		got, e := nfa.Build(l)
		if e != api.OK || len(got) > 200 {
			t.Fatalf("Build(%s): %d instructions, error %d", short(l), len(got), e)
		}
		agrees(t, l)
		// Filled up to exactly 200, whatever there was.
		for range 200 - len(got) {
			l = append(l, regex.Op{Kind: regex.Plus})
		}
		if got, e := nfa.Build(l); e != api.OK || len(got) != 200 {
			t.Fatalf("Build(%s): %d instructions, error %d", short(l), len(got), e)
		}
		agrees(t, l)
		for _, more := range []string{"*", "+", "?", "0|", "a&", "a|", "++", "*?", "a*|", "?0&", "+0&0&*"} {
			fails(t, slices.Concat(l, ops(more)), api.ErrFull)
		}
		for _, ahead := range []string{"a", "0*", "0+", "0?"} {
			fails(t, slices.Concat(ops(ahead), l, ops("&")), api.ErrFull)
		}
		fails(t, slices.Concat(ops("0"), l, ops("|")), api.ErrFull)
		// Ops that make none may follow, or go ahead.
		if got, e := nfa.Build(slices.Concat(ops("0"), l, ops("&0&"), chain("0", "0&", 500), ops("&"))); e != api.OK || len(got) != 200 {
			t.Fatalf("Build: %d instructions, error %d", len(got), e)
		}
	}
}

func TestTooMany(t *testing.T) {
	for _, l := range [][]regex.Op{
		chain("a", "*", 100),
		chain("a", "+", 199),
		chain("a", "?", 199),
		chain("0", "+", 200),
		chain("0", "?", 200),
		chain("0", "*", 100),
		chain("a", "b&", 199),
		chain("0", "0|", 100),
		chain("a", "0|", 100),
		chain("0", "a|", 67),
		ops(strings.Repeat("a", 200) + strings.Repeat("&", 199)),
		ops(strings.Repeat("0", 101) + strings.Repeat("|", 100)),
		chain("a", "*", 200),
		chain("a", "*", 255),
		chain("a", "*", 1000),
		chain("a", "b|", 1000),
		ops(strings.Repeat("a", 1000) + strings.Repeat("&", 999)),
		ops(strings.Repeat("a", 1000) + strings.Repeat("|", 999)),
		// The sequences that are too long lie first, or last, or in between.
		slices.Concat(chain("a", "*", 300), ops("b&")),
		slices.Concat(ops("b"), chain("a", "*", 300), ops("&")),
		slices.Concat(ops("b"), chain("a", "*", 300), ops("|c|")),
		slices.Concat(chain("a", "*", 60), chain("a", "*", 60), ops("&")),
	} {
		fails(t, l, api.ErrFull)
	}
}

func TestBothErrors(t *testing.T) {
	for _, long := range [][]regex.Op{chain("a", "*", 100), chain("a", "+", 199), chain("a", "b|", 300), chain("0", "?", 5000), ops(strings.Repeat("a", 400) + strings.Repeat("&", 399))} {
		fails(t, long, api.ErrFull)
		for _, bad := range []string{"&", "|", "a", "0", "*a", "a+0?", "ab&", "ab|&&", "&a", "a&&b"} {
			fails(t, slices.Concat(long, ops(bad)), api.ErrArg)
		}
		for _, bad := range []string{"&", "|", "*", "+", "?", "a", "0", "a&", "a|", "ab|"} {
			fails(t, slices.Concat(ops(bad), long), api.ErrArg)
		}
		for _, kind := range noKinds() {
			fails(t, slices.Concat(long, []regex.Op{{Kind: kind}}), api.ErrArg)
			fails(t, slices.Concat([]regex.Op{{Kind: kind}}, long), api.ErrArg)
			fails(t, slices.Insert(slices.Clone(long), len(long)/2, regex.Op{Kind: kind}), api.ErrArg)
		}
		fails(t, slices.Concat(long, long), api.ErrArg)
		fails(t, slices.Concat(long, long, ops("&")), api.ErrFull)
	}
}

func TestManyOps(t *testing.T) {
	const many = 200000
	done := []nfa.Inst{{Kind: nfa.Done}}
	yields(t, chain("0", "0&", many), done)
	yields(t, ops(strings.Repeat("0", many)+strings.Repeat("&", many-1)), done)
	yields(t, ops(strings.Repeat("0", many)+"a"+strings.Repeat("&", many)), insts(t, "a"))
	yields(t, ops("ab|"+strings.Repeat("0&", many)+"*"), insts(t, "T1,6 T1,3 a G2 b G-5"))
	fails(t, ops(strings.Repeat("0", many)+strings.Repeat("&", many)), api.ErrArg)
	fails(t, ops(strings.Repeat("0", many)+strings.Repeat("&", many-2)), api.ErrArg)
	for _, kind := range "*+?" {
		fails(t, chain("a", string(kind), many), api.ErrFull)
		fails(t, append(chain("a", string(kind), many), ops("a")...), api.ErrArg)
	}
	for _, kind := range "&|" {
		fails(t, chain("a", "b"+string(kind), many), api.ErrFull)
		fails(t, ops(strings.Repeat("a", many)+strings.Repeat(string(kind), many-1)), api.ErrFull)
		fails(t, ops(strings.Repeat("a", many)+strings.Repeat(string(kind), many-2)), api.ErrArg)
		fails(t, ops(strings.Repeat("a", many)+strings.Repeat(string(kind), many)), api.ErrArg)
	}
	fails(t, append(chain("0", "0&", many), regex.Op{Kind: 8}), api.ErrArg)
}

// everyList checks all lists of these ops with up to size more ops behind l.
func everyList(t *testing.T, l, with []regex.Op, size int) {
	t.Helper()
	agrees(t, l)
	if size == 0 {
		return
	}
	for _, op := range with {
		everyList(t, append(slices.Clone(l), op), with, size-1)
	}
}

func TestShortAgainstWords(t *testing.T) {
	everyList(t, nil, ops("a0&|*+?"), 6)
	everyList(t, nil, append(ops("a0&|*"), regex.Op{}, regex.Op{Kind: 8}, regex.Op{Kind: regex.Set, Not: true}, regex.Op{Kind: regex.Plus, Not: true, Spans: manySpans(2)}), 4)
}

// any returns some ops that can be executed, size of them at least.
func (n *numbers) any(size int) []regex.Op {
	var l []regex.Op
	left := 0
	for len(l) < size || left != 1 {
		kind := n.below(7) + regex.Set
		if len(l) >= size {
			kind = regex.Cat + n.below(2)
		}
		if pops(kind) > left || kind == regex.Set && n.below(3) == 0 {
			kind = regex.None
		}
		left += 1 - pops(kind)
		l = append(l, n.op(kind))
	}
	return l
}

// op returns some op of a kind, often with what is not meant for it.
func (n *numbers) op(kind int) regex.Op {
	op := regex.Op{Kind: kind, Not: n.below(2) == 0}
	for range n.below(4) {
		op.Spans = append(op.Spans, span(byte(n.below(256)), byte(n.below(256))))
	}
	return op
}

func TestAnyAgainstWords(t *testing.T) {
	n := numbers(1)
	seen := map[api.Errno]int{}
	for range 1500 {
		l := n.any(1 + n.below(250))
		seen[agrees(t, l)]++
		// The same, with something wrong or too much somewhere.
		i := n.below(len(l))
		l[i] = n.op(n.below(10))
		seen[agrees(t, l)]++
		seen[agrees(t, slices.Delete(slices.Clone(l), i, i+1))]++
		seen[agrees(t, slices.Concat(l, n.any(1+n.below(250)), ops("|")))]++
	}
	if seen[api.OK] < 500 || seen[api.ErrArg] < 500 || seen[api.ErrFull] < 500 {
		t.Fatalf("too few of a kind: %v", seen)
	}
}

// reads checks P9.2 for s, if it is a pattern, and reports whether it is.
func reads(t *testing.T, s string) bool {
	t.Helper()
	l, _, e := regex.Parse([]byte(s))
	if e != api.OK {
		return false
	}
	if e := agrees(t, l); e != api.OK {
		t.Fatalf("the instructions of %q: error %d", s, e)
	}
	if got, _ := nfa.Build(l); len(got) > 3*len(s)+1 {
		t.Fatalf("there are %d instructions of %q", len(got), s)
	}
	return true
}

// everyText checks all texts of these bytes that are patterns, with up to size bytes more behind s, and returns how many there are.
func everyText(t *testing.T, s, with string, size int) int {
	t.Helper()
	count := 0
	if reads(t, s) {
		count++
	}
	if size == 0 {
		return count
	}
	for _, c := range []byte(with) {
		count += everyText(t, s+string([]byte{c}), with, size-1)
	}
	return count
}

func TestShortPatterns(t *testing.T) {
	if count := everyText(t, "", "a|()*+?", 6) + everyText(t, "", `a[^]\d.*`, 5); count < 1000 {
		t.Fatalf("only %d patterns", count)
	}
}

func (n *numbers) pattern(deep int) string {
	s := ""
	for range n.below(6) {
		switch kind := n.below(5); {
		case kind == 0:
			s += "|"
			continue
		case kind <= 2 && deep > 0:
			s += "(" + n.pattern(deep-1) + ")"
		default:
			s += []string{"a", "b", ".", `\d`, `\w`, "[^a-c]", `[ab\]]`, "()"}[n.below(8)]
		}
		s += []string{"", "*", "+", "?"}[n.below(4)]
	}
	return s
}

func TestLongPatterns(t *testing.T) {
	n := numbers(2)
	longest, count := 0, 0
	for range 20000 {
		s := n.pattern(1 + n.below(7))
		if reads(t, s) {
			count++
			longest = max(longest, len(s))
		}
	}
	if count < 5000 || longest < 70 {
		t.Fatalf("only %d patterns, of at most %d bytes", count, longest)
	}
	for _, s := range []string{strings.Repeat("|", 80), strings.Repeat("a|", 40), strings.Repeat("a*", 40), strings.Repeat("()*", 26), strings.Repeat("(|)*", 20), strings.Repeat("a*|", 26), strings.Repeat("a", 80), strings.Repeat("(", 8) + strings.Repeat("|", 56) + strings.Repeat(")*", 8), "[" + strings.Repeat("a", 78) + "]"} {
		if !reads(t, s) {
			t.Fatalf("%q is no pattern", s)
		}
	}
}

// has checks Has for every byte.
func has(t *testing.T, x nfa.Inst) {
	t.Helper()
	for i, want := range slowHas(x) {
		if got := nfa.Has(x, byte(i)); got != want {
			t.Fatalf("Has(%v, %d): %v", x, i, got)
		}
	}
}

func TestHas(t *testing.T) {
	x := one(span('a', 'c'), span('x', 'x'))
	for c, want := range map[byte]bool{'`': false, 'a': true, 'b': true, 'c': true, 'd': false, 'w': false, 'x': true, 'y': false, 0: false, 255: false} {
		x.Not = false
		if got := nfa.Has(x, c); got != want {
			t.Errorf("Has(%v, %d): %v", x, c, got)
		}
		x.Not = true
		if got := nfa.Has(x, c); got == want {
			t.Errorf("Has(%v, %d): %v", x, c, got)
		}
	}
	for i := range 256 {
		if nfa.Has(nfa.Inst{}, byte(i)) || !nfa.Has(nfa.Inst{Not: true}, byte(i)) {
			t.Errorf("Has without spans, %d", i)
		}
		if !nfa.Has(one(span(0, 255)), byte(i)) || nfa.Has(one(span(255, 0)), byte(i)) {
			t.Errorf("Has with the bytes 0 to 255, %d", i)
		}
	}
}

func TestHasAgainstWords(t *testing.T) {
	for _, spans := range [][]regex.Span{
		nil, {}, {span(0, 0)}, {span(255, 255)}, {span(0, 255)}, {span(0, 127), span(128, 255)},
		{span('a', 'c'), span('b', 'd')}, {span('b', 'd'), span('a', 'c')}, {span('a', 'z'), span('f', 'g')}, {span('a', 'a'), span('a', 'a')},
		{span('c', 'a')}, {span('c', 'a'), span('b', 'b')}, {span('b', 'b'), span('c', 'a')}, {span(255, 0), span(1, 0), span(255, 254)},
		{span(9, 13), span(32, 32)}, manySpans(300),
	} {
		for _, not := range []bool{false, true} {
			for _, kind := range append(noKinds(), nfa.One, nfa.Two, nfa.Go, nfa.Done) {
				has(t, nfa.Inst{Kind: kind, Not: not, Spans: spans})
			}
			for _, far := range []int{1, -1, 300, math.MaxInt, math.MinInt} {
				has(t, nfa.Inst{Kind: nfa.One, X: far, Y: -far, Not: not, Spans: spans})
			}
		}
	}
	n := numbers(3)
	for range 2000 {
		x := nfa.Inst{Kind: n.below(6), X: n.below(9) - 4, Y: n.below(9) - 4, Not: n.below(2) == 0}
		for range n.below(6) {
			x.Spans = append(x.Spans, span(byte(n.below(256)), byte(n.below(256))))
		}
		has(t, x)
	}
}

func TestEverySpan(t *testing.T) {
	x := nfa.Inst{Spans: make([]regex.Span, 1)}
	for i := range 1 << 24 {
		from, to, c := byte(i>>16), byte(i>>8), byte(i)
		x.Spans[0] = span(from, to)
		x.Not = false
		in := nfa.Has(x, c)
		x.Not = true
		if out := nfa.Has(x, c); in != (c >= from && c <= to) || out == in {
			t.Fatalf("Has of the bytes %d to %d, %d: %v, with Not %v", from, to, c, in, out)
		}
	}
}

// deepCopy returns ops that share no memory with l.
func deepCopy(l []regex.Op) []regex.Op {
	l = slices.Clone(l)
	for i := range l {
		l[i].Spans = slices.Clone(l[i].Spans)
	}
	return l
}

// Lists with each result, among them spans that several ops share, and capacity behind them.
func lists() [][]regex.Op {
	n := numbers(4)
	room := manySpans(9)
	shared := regex.Op{Kind: regex.Set, Not: true, Spans: room[2:4]}
	return [][]regex.Op{
		nil, ops("a"), ops("ab|c*&"), ops("a+0?|"), ops("ab"), ops("a&"), chain("a", "*", 150), n.any(20), n.any(60), n.any(400),
		{shared, shared, {Kind: regex.Alt, Spans: room[2:4]}},
		{shared, {Kind: regex.Set, Spans: room[3:5]}, {Kind: regex.Cat}, {Kind: regex.Set, Spans: room[:0]}, {Kind: regex.Cat}},
		{shared, {Kind: 8}},
	}
}

func sameOp(a, b regex.Op) bool {
	return a.Kind == b.Kind && a.Not == b.Not && slices.Equal(a.Spans, b.Spans)
}

func TestArgumentsAreLeftAlone(t *testing.T) {
	for _, l := range lists() {
		// With more capacity than length, so that an append to an argument would be seen.
		whole := append(deepCopy(l), ops("xy|z&")...)
		for i := range whole {
			whole[i].Spans = append(whole[i].Spans, span(1, 2), span(3, 4))
		}
		before := deepCopy(whole)
		arg := whole[:len(l)]
		for i := range arg {
			arg[i].Spans = arg[i].Spans[:len(l[i].Spans)]
		}
		got, e := nfa.Build(arg)
		for i := range whole {
			whole[i].Spans = whole[i].Spans[:len(before[i].Spans)]
		}
		if !slices.EqualFunc(whole, before, sameOp) {
			t.Fatalf("Build(%s) changed its argument to %v", short(before), whole)
		}
		// If the instructions or a later call used the arguments' memory, they would change with it.
		for i := range whole {
			clear(whole[i].Spans)
		}
		clear(whole)
		again, f := nfa.Build(l)
		if !sameInsts(got, again) || e != f {
			t.Fatalf("Build(%s): %v, error %d; then %v, error %d", short(l), got, e, again, f)
		}
	}
}

func TestHasLeavesItsArgumentAlone(t *testing.T) {
	for _, not := range []bool{false, true} {
		whole := []regex.Span{span('c', 'd'), span('b', 'a'), span('a', 'e'), span(7, 8)}
		before := slices.Clone(whole)
		x := nfa.Inst{Kind: nfa.One, X: 5, Y: 6, Not: not, Spans: whole[:3]}
		has(t, x)
		if !slices.Equal(whole, before) || x.Kind != nfa.One || x.X != 5 || x.Y != 6 || x.Not != not || len(x.Spans) != 3 {
			t.Fatalf("Has changed its argument to %v, %v", x, whole)
		}
		// Nor is anything kept of it.
		clear(whole)
		has(t, x)
	}
}

func TestInstructionsAreNewMemory(t *testing.T) {
	for _, l := range lists() {
		before := deepCopy(l)
		got, _ := nfa.Build(l)
		want, e := nfa.Build(l)
		// Whoever appends to the spans of an instruction, or writes to them, must change no other ones, in the same answer or in another one, nor those of the ops.
		for k := range got {
			spans := got[k].Spans
			_ = append(spans, span(1, 2), span(3, 4))
			for j := range spans {
				spans[j] = span(5, 6)
			}
			if !sameInsts(got[k+1:], want[k+1:]) {
				t.Fatalf("Build(%s): the instruction %d shares its spans with one behind it", short(l), k)
			}
		}
		_ = append(got, two(8, 9))
		clear(got)
		if !slices.EqualFunc(l, before, sameOp) {
			t.Fatalf("Build(%s): the instructions share memory with the ops", short(before))
		}
		if again, f := nfa.Build(l); !sameInsts(again, want) || e != f {
			t.Fatalf("Build(%s): %v, error %d, and later %v, error %d", short(l), want, e, again, f)
		}
	}
}

func TestEarlierCallsDoNotMatter(t *testing.T) {
	all := lists()
	for _, l := range all {
		want, e := nfa.Build(l)
		for _, other := range all {
			nfa.Build(other)
			nfa.Has(one(manySpans(4)...), 3)
			if got, f := nfa.Build(l); !sameInsts(got, want) || e != f {
				t.Fatalf("Build(%s): %v, error %d; behind Build(%s) %v, error %d", short(l), want, e, short(other), got, f)
			}
		}
	}
}
