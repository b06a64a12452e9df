package seek_test

import (
	"bytes"
	"fmt"
	"math"
	"slices"
	"strings"
	"testing"

	"davit/api"
	"davit/nfa"
	"davit/regex"
	"davit/seek"
)

// The calls have exactly these signatures, and what Look tells has these numbers.
var (
	_ func([][]byte) ([][]nfa.Inst, int, api.Errno) = seek.Arms
	_ func([][]nfa.Inst, []byte) (seek.Found, int)  = seek.Look

	_ = struct{ Arm, From, To int }(seek.Found{})

	_ = [1]int{}[seek.Met-0]
	_ = [1]int{}[seek.Wait-1]
	_ = [1]int{}[seek.Over-2]
)

// numbers yields the same numbers in every test run.
type numbers uint64

func (n *numbers) below(most int) int {
	*n = *n*6364136223846793005 + 1442695040888963407
	return int(uint32(*n>>33)) % most
}

// text returns some bytes of these, size of them.
func (n *numbers) text(of string, size int) []byte {
	b := make([]byte, size)
	for i := range b {
		b[i] = of[n.below(len(of))]
	}
	return b
}

func one(spans ...regex.Span) nfa.Inst {
	return nfa.Inst{Kind: nfa.One, Spans: spans}
}

func not(spans ...regex.Span) nfa.Inst {
	return nfa.Inst{Kind: nfa.One, Not: true, Spans: spans}
}

func two(x, y int) nfa.Inst {
	return nfa.Inst{Kind: nfa.Two, X: x, Y: y}
}

func leap(x int) nfa.Inst {
	return nfa.Inst{Kind: nfa.Go, X: x}
}

func span(from, to byte) regex.Span {
	return regex.Span{From: from, To: to}
}

// insts returns the instructions that are written down: a letter from a to z is a One of it, . a One that has every byte, 0 a One that has none; T1,3 is a Two with X 1 and Y 3, G-2 a Go with X -2, D a Done; K9 an instruction of the kind 9, which has all that could lead further on.
func insts(s string) []nfa.Inst {
	var l []nfa.Inst
	for _, word := range strings.Fields(s) {
		l = append(l, inst(word))
	}
	return l
}

func inst(word string) nfa.Inst {
	var x, y int
	switch {
	case word == ".":
		return not()
	case word == "0":
		return one()
	case word == "D":
		return nfa.Inst{Kind: nfa.Done}
	case len(word) == 1 && word[0] >= 'a' && word[0] <= 'z':
		return one(span(word[0], word[0]))
	}
	if _, err := fmt.Sscanf(word, "T%d,%d", &x, &y); err == nil {
		return two(x, y)
	}
	if _, err := fmt.Sscanf(word, "G%d", &x); err == nil {
		return leap(x)
	}
	if _, err := fmt.Sscanf(word, "K%d", &x); err == nil {
		return nfa.Inst{Kind: x, X: 1, Y: 1, Not: true}
	}
	panic(word + " is no instruction")
}

func list(patterns ...string) [][]byte {
	var l [][]byte
	for _, s := range patterns {
		l = append(l, []byte(s))
	}
	return l
}

// armsOf returns the instructions of these patterns.
func armsOf(t *testing.T, patterns ...string) [][]nfa.Inst {
	t.Helper()
	arms, i, e := seek.Arms(list(patterns...))
	if e != api.OK || i != 0 {
		t.Fatalf("Arms(%q): %d, error %d", patterns, i, e)
	}
	return arms
}

func sameInst(a, b nfa.Inst) bool {
	return a.Kind == b.Kind && a.X == b.X && a.Y == b.Y && a.Not == b.Not && slices.Equal(a.Spans, b.Spans)
}

func sameInsts(a, b []nfa.Inst) bool {
	return slices.EqualFunc(a, b, sameInst)
}

func sameArms(a, b [][]nfa.Inst) bool {
	return slices.EqualFunc(a, b, sameInsts)
}

// met checks that Look returns this match.
func met(t *testing.T, arms [][]nfa.Inst, b string, arm, from, to int) {
	t.Helper()
	want := seek.Found{Arm: arm, From: from, To: to}
	if found, told := seek.Look(arms, []byte(b)); found != want || told != seek.Met {
		t.Fatalf("Look(%s, %s): %v, %d, not %v", short(arms), shown([]byte(b)), found, told, want)
	}
}

// unmet checks that Look returns no match, and Wait or Over.
func unmet(t *testing.T, arms [][]nfa.Inst, b string, want int) {
	t.Helper()
	if found, told := seek.Look(arms, []byte(b)); found != (seek.Found{}) || told != want {
		t.Fatalf("Look(%s, %s): %v, %d, not %d", short(arms), shown([]byte(b)), found, told, want)
	}
}

// agrees checks Look against the words of the chapter, and returns what both of them tell.
func agrees(t *testing.T, arms [][]nfa.Inst, b []byte) int {
	t.Helper()
	want, toldWant := slowLook(arms, b)
	if found, told := seek.Look(arms, b); found != want || told != toldWant {
		t.Fatalf("Look(%s, %s): %v, %d, not %v, %d", short(arms), shown(b), found, told, want, toldWant)
	}
	return toldWant
}

// short tells of arms in a message.
func short(arms [][]nfa.Inst) string {
	if s := fmt.Sprint(arms); len(s) <= 1000 {
		return s
	}
	return fmt.Sprint(len(arms), " long arms")
}

// shown tells of bytes in a message.
func shown(b []byte) string {
	if len(b) <= 300 {
		return fmt.Sprintf("%q", b)
	}
	return fmt.Sprintf("%q .. %d bytes", b[:300], len(b))
}

func TestExample(t *testing.T) {
	met(t, armsOf(t, "b+", "ab"), "xabb", 0, 2, 3)
}

// P10.1: the instructions of all patterns, in their order.
func TestArms(t *testing.T) {
	arms := armsOf(t, "a|b", "", "c*d+", "x")
	want := [][]nfa.Inst{insts("T1,3 a G2 b D"), insts("D"), insts("T1,3 c G-2 d T-1,1 D"), insts("x D")}
	if !sameArms(arms, want) {
		t.Fatalf("Arms: %v", arms)
	}
	for _, patterns := range [][]string{
		{},
		{""},
		{"", ""},
		{"a"},
		{"a", "a"},
		{"ab", "ba"},
		{"[a-c]", "[^a-c]", `\w\d\s\n`, "."},
		{"a", "(b|c)*d?", "", "e+", "((((((((x))))))))"},
		{strings.Repeat("a", 80), strings.Repeat("|", 80), strings.Repeat("a*", 40)},
		slices.Repeat([]string{"a", "", "b|c*"}, 100),
	} {
		arms := armsOf(t, patterns...)
		if len(arms) != len(patterns) {
			t.Fatalf("Arms(%q): %d of them", patterns, len(arms))
		}
		for i, s := range patterns {
			ops, _, _ := regex.Parse([]byte(s))
			if want, e := nfa.Build(ops); e != api.OK || !sameInsts(arms[i], want) {
				t.Fatalf("Arms(%q): %v of %q", patterns, arms[i], s)
			}
		}
	}
}

func TestNoArms(t *testing.T) {
	for _, l := range [][][]byte{nil, {}} {
		if arms, i, e := seek.Arms(l); len(arms) != 0 || i != 0 || e != api.OK {
			t.Fatalf("Arms of no patterns: %v, %d, error %d", arms, i, e)
		}
	}
	for _, l := range [][][]byte{{nil}, {{}}} {
		if arms, i, e := seek.Arms(l); !sameArms(arms, [][]nfa.Inst{insts("D")}) || i != 0 || e != api.OK {
			t.Fatalf("Arms of the empty pattern: %v, %d, error %d", arms, i, e)
		}
	}
}

// bad are texts that are no patterns, with their errors.
func bad() map[string]api.Errno {
	return map[string]api.Errno{
		"*":                              api.ErrForm,
		"(":                              api.ErrForm,
		"a)":                             api.ErrForm,
		"[b-a]":                          api.ErrForm,
		"abc\\":                          api.ErrForm,
		strings.Repeat("a", 79) + "(":    api.ErrForm,
		strings.Repeat("a", 81):          api.ErrFull,
		strings.Repeat("*", 81):          api.ErrFull,
		strings.Repeat("(", 1000):        api.ErrFull,
		strings.Repeat("(", 9):           api.ErrDeep,
		"a" + strings.Repeat("|(", 9):    api.ErrDeep,
		strings.Repeat("(", 9) + "*[b-a": api.ErrDeep,
	}
}

// P10.1: the first pattern that has an error counts, whatever comes behind it.
func TestFirstError(t *testing.T) {
	for s, e := range bad() {
		for other := range bad() {
			for _, c := range []struct {
				patterns []string
				index    int
			}{
				{[]string{s}, 0},
				{[]string{s, "a"}, 0},
				{[]string{s, other}, 0},
				{[]string{s, "a", other, other}, 0},
				{[]string{"a", s}, 1},
				{[]string{"", s, "b", other}, 1},
				{[]string{"a", "b|c", "d*", s}, 3},
				{[]string{"a", "b|c", "d*", s, other}, 3},
				{append(slices.Repeat([]string{"a|b"}, 500), s, other), 500},
			} {
				if arms, i, got := seek.Arms(list(c.patterns...)); len(arms) != 0 || i != c.index || got != e {
					t.Fatalf("Arms(%q): %v, %d, error %d, not error %d at %d", c.patterns, arms, i, got, e, c.index)
				}
			}
		}
	}
}

func TestArmsAgainstWords(t *testing.T) {
	n := numbers(1)
	seen := map[api.Errno]int{}
	for range 30000 {
		l := make([][]byte, n.below(5))
		for i := range l {
			switch n.below(20) {
			case 0:
				l[i] = n.text("ab()|*[]", n.below(5))
			case 1:
				l[i] = n.text("a(|", 75+n.below(12))
			default:
				l[i] = []byte(n.pattern(3))
			}
		}
		want, at, e := slowArms(l)
		if got, i, f := seek.Arms(l); !sameArms(got, want) || i != at || f != e {
			t.Fatalf("Arms(%q): %v, %d, error %d, not error %d at %d", l, got, i, f, e, at)
		}
		seen[e]++
	}
	if seen[api.OK] < 1000 || seen[api.ErrForm] < 1000 || seen[api.ErrFull] < 100 || seen[api.ErrDeep] < 100 {
		t.Fatalf("too few of a kind: %v", seen)
	}
}

// No pattern of at most 80 bytes has more than 200 instructions, so Arms returns ErrFull for those that are too long alone: each byte makes two instructions at most, and Done follows.
func TestNoPatternHasTooManyInstructions(t *testing.T) {
	most := 0
	n := numbers(2)
	for range 3000 {
		most = max(most, len(armsOf(t, string(n.text("||||||||a", 80)))[0]))
	}
	for _, s := range []string{strings.Repeat("|", 80), strings.Repeat("a*", 40), strings.Repeat("()*", 26), strings.Repeat("a*|", 26), strings.Repeat("(", 8) + strings.Repeat("|", 56) + strings.Repeat(")*", 8)} {
		most = max(most, len(armsOf(t, s)[0]))
	}
	if most != 161 {
		t.Fatalf("the most instructions of a pattern are %d", most)
	}
}

// P10.2: the match with the smallest end.
func TestSmallestEnd(t *testing.T) {
	for _, c := range []struct {
		patterns      []string
		b             string
		arm, from, to int
	}{
		{[]string{"a"}, "a", 0, 0, 1},
		{[]string{"a"}, "aa", 0, 0, 1},
		{[]string{"a"}, "xa", 0, 1, 2},
		{[]string{"ab"}, "aab", 0, 1, 3},
		{[]string{"abc", "b"}, "abc", 1, 1, 2},
		{[]string{"aaa", "aa", "a"}, "aaa", 2, 0, 1},
		{[]string{"b+", "ab"}, "xabb", 0, 2, 3},
		{[]string{"ok\\n", "err"}, "xx err ok\n", 1, 3, 6},
		{[]string{"(a|ab)(c|bcd)"}, "abcd", 0, 0, 3},
		{[]string{"a.*c"}, "a\nabc", 0, 2, 5},
		{[]string{"a.*b"}, "xaabb", 0, 1, 4},
		{[]string{"c", "a", "b"}, "abc", 1, 0, 1},
		{[]string{"a+$"}, "aa$$", 0, 0, 3},
		{[]string{"\\d+ ok", "\\d\\d"}, "12 ok", 1, 0, 2},
	} {
		met(t, armsOf(t, c.patterns...), c.b, c.arm, c.from, c.to)
	}
}

// P10.2: of those with the smallest end, the one of the smallest index.
func TestSmallestArmOfTheSameEnd(t *testing.T) {
	for _, c := range []struct {
		patterns      []string
		b             string
		arm, from, to int
	}{
		{[]string{"a", "a"}, "a", 0, 0, 1},
		{[]string{"b", "ab"}, "xab", 0, 2, 3},
		{[]string{"ab", "b"}, "xab", 0, 1, 3},
		{[]string{"c", "b", "ab"}, "xab", 1, 2, 3},
		{[]string{"c", "ab", "b", "xab"}, "xab", 1, 1, 3},
		{[]string{"abc", "c", "bc", ".*c"}, "abc", 0, 0, 3},
		{[]string{"c", "abc"}, "abc", 0, 2, 3},
		{[]string{"", "a", ""}, "a", 0, 0, 0},
		{[]string{"a", "", ""}, "a", 1, 0, 0},
		{[]string{"a", "b", "c*", "d*"}, "abcd", 2, 0, 0},
	} {
		met(t, armsOf(t, c.patterns...), c.b, c.arm, c.from, c.to)
	}
}

// P10.2: of those of one arm and one end, the one with the smallest begin.
func TestSmallestBeginOfTheSameArm(t *testing.T) {
	for _, c := range []struct {
		patterns      []string
		b             string
		arm, from, to int
	}{
		{[]string{"c", "a+b"}, "aaab", 1, 0, 4},
		{[]string{"b|ab"}, "xab", 0, 1, 3},
		{[]string{"ab|b"}, "xab", 0, 1, 3},
		{[]string{"c|bc|abc"}, "xabc", 0, 1, 4},
		{[]string{"abc|bc|c"}, "xabc", 0, 1, 4},
		{[]string{"x?a?b"}, "xxab", 0, 1, 4},
		{[]string{"x*a?b"}, "xxab", 0, 0, 4},
		{[]string{"(a|b)*c"}, "xabababc", 0, 1, 8},
		{[]string{"(x|.*)c"}, "abxc", 0, 0, 4},
		{[]string{"(..|...|.)d"}, "abcd", 0, 0, 4},
		{[]string{"z", "(c|bc|abc)d"}, "aabcd", 1, 1, 5},
		// The one that begins first ends too late, or not at all.
		{[]string{"abc|b"}, "abc", 0, 1, 2},
		{[]string{"abd|bc"}, "abc", 0, 1, 3},
	} {
		met(t, armsOf(t, c.patterns...), c.b, c.arm, c.from, c.to)
	}
}

func TestNoMatch(t *testing.T) {
	for _, c := range []struct {
		patterns []string
		b        string
	}{
		{nil, ""},
		{nil, "abc"},
		{[]string{"x"}, ""},
		{[]string{"x"}, "abc"},
		{[]string{"abc"}, "ab"},
		{[]string{"abc"}, "abab"},
		{[]string{"."}, "\n\n"},
		{[]string{"[^a]", "b", "ab|ba"}, "aaa"},
		{[]string{"\\d+\n"}, "123"},
		{[]string{"a.b"}, "a\nb"},
	} {
		unmet(t, armsOf(t, c.patterns...), c.b, seek.Wait)
	}
}

func TestEmptyMatch(t *testing.T) {
	for _, b := range []string{"", "a", "b", "abc", strings.Repeat("b", 255), strings.Repeat("b", 256), strings.Repeat("b", 1000)} {
		for _, s := range []string{"", "a*", "a?", "()", "(a|)", "|a", "(a*)*", "(|)+", "(a?b?)*"} {
			met(t, armsOf(t, s), b, 0, 0, 0)
			met(t, armsOf(t, "a", s), b, 1, 0, 0)
			met(t, armsOf(t, "a", s, "", "a"), b, 1, 0, 0)
			met(t, append([][]nfa.Inst{nil, insts("a")}, armsOf(t, s)...), b, 2, 0, 0)
		}
	}
}

func TestInstructions(t *testing.T) {
	for _, c := range []struct {
		arm, b   string
		from, to int
	}{
		{"D", "a", 0, 0},
		{"D a D", "a", 0, 0},
		{"a D", "ba", 1, 2},
		{"a D b D", "ab", 0, 1},
		{"a b D c D", "abc", 0, 2},
		// Several Done; the one that comes last in the list has the smaller begin, or end.
		{"T1,4 b c D b D", "abc", 1, 2},
		{"T1,3 c D b c D", "abc", 1, 3},
		{"T1,4 b c D c D", "abc", 1, 3},
		{"T1,3 c D T1,4 b c D a b c D", "abc", 0, 3},
		{"T1,3 a D a D", "a", 0, 1},
		{"T2,1 D a D", "a", 0, 0},
		{"G2 D a D", "ba", 1, 2},
		{"G3 D a G-2", "a", 0, 0},
		{"G2 a D", "a", 0, 0},
		{"a G1 D", "a", 0, 1},
		{"a G3 b D G-2 D", "aab", 1, 3},
		{"T1,1 a D", "a", 0, 1},
		{"a T-1,1 b D", "aaab", 0, 4},
		{". D", "\n", 0, 1},
		{". . D", "a\xff\x00", 0, 2},
		// What leads round and round without consuming anything, on the way or beside it.
		{"T0,1 a D", "ba", 1, 2},
		{"T1,0 a D", "ba", 1, 2},
		{"T1,2 T0,-1 a D", "a", 0, 1},
		{"T1,3 G1 G-1 a D", "a", 0, 1},
		{"a T-1,1 T-1,1 G1 T-3,1 D", "a", 0, 1},
		{"T1,2 G-1 T1,2 G-3 a G1 D", "xa", 1, 2},
	} {
		arms := [][]nfa.Inst{insts(c.arm)}
		met(t, arms, c.b, 0, c.from, c.to)
		// Arms that match nothing, ahead of it and behind it, change but its index.
		met(t, [][]nfa.Inst{nil, insts("q D"), insts("T0,0"), arms[0], nil, insts("G0"), arms[0]}, c.b, 3, c.from, c.to)
	}
}

func TestLeadsNowhere(t *testing.T) {
	for _, arm := range []string{
		"",
		"a", "a a", "a b", ".", ". .",
		"a G0 D", "a T0,0 D", "a G-1 D", "a T-1,-1 D",
		"G0", "G0 D", "T0,0", "T0,0 D", "G1 G-1 D", "T1,1 T-1,-1 D", "T1,2 G-1 G-2 D",
		"G-1 D", "G-2 D", "G2 D", "G3 D", "T-1,2 D", "T2,-1 D", "T5,-5 D",
		"a G-2 D", "a G2 D", "a T-2,2 D", "a T2,3 D",
		"0 D", "a 0 D", "T1,3 0 D 0 D",
		"K0 D", "K5 D", "K-1 D", "K6 D", "K256 D", "K257 D", "K258 D", "K259 D", "K260 D", "a K0 D", "a K5", "K-4", "K5",
		"b D", "a b D", "b a D", "a T1,0 G-1",
	} {
		for _, b := range []string{"", "a", "aa", "aaaa"} {
			unmet(t, [][]nfa.Inst{insts(arm)}, b, seek.Wait)
			unmet(t, [][]nfa.Inst{insts(arm), nil, insts(arm)}, b, seek.Wait)
			unmet(t, [][]nfa.Inst{insts(arm)}, strings.Repeat("a", 256)+b, seek.Over)
		}
		// Other arms go on.
		met(t, [][]nfa.Inst{insts(arm), insts("a D"), insts(arm)}, "xa", 1, 1, 2)
	}
}

func farAway() []int {
	l := []int{2, 3, 4, 200, 201, 255, 256, 257, 1 << 15, 1 << 16, 1<<16 - 1, 1<<31 - 1, 1 << 31, 1<<32 - 1, 1 << 32, 1<<32 + 1, math.MaxInt - 200, math.MaxInt - 1, math.MaxInt}
	for _, x := range slices.Clone(l) {
		l = append(l, -x)
	}
	return append(l, math.MinInt, math.MinInt+1, math.MinInt+199, math.MinInt+200)
}

// padding are ahead of an instruction so many that jump to the next one.
func padding(count int) []nfa.Inst {
	return slices.Repeat([]nfa.Inst{leap(1)}, count)
}

func TestFarAway(t *testing.T) {
	done := nfa.Inst{Kind: nfa.Done}
	for _, far := range farAway() {
		unmet(t, [][]nfa.Inst{{leap(far), done}}, "a", seek.Wait)
		unmet(t, [][]nfa.Inst{{two(far, far), done}}, "a", seek.Wait)
		unmet(t, [][]nfa.Inst{{two(far, -far), done}}, "a", seek.Wait)
		met(t, [][]nfa.Inst{{two(far, 1), done}}, "a", 0, 0, 0)
		met(t, [][]nfa.Inst{{two(1, far), done}}, "a", 0, 0, 0)
		unmet(t, [][]nfa.Inst{insts("a"), append(insts("a"), leap(far))}, "aa", seek.Wait)
		for _, count := range []int{1, 2, 100, 197, 198} {
			for _, x := range []nfa.Inst{leap(far), two(far, far), two(far, 1), two(1, far)} {
				arm := append(padding(count), x, done)
				agrees(t, [][]nfa.Inst{arm}, []byte("ab"))
				arm[0] = inst("a")
				agrees(t, [][]nfa.Inst{arm}, []byte("xab"))
			}
		}
	}
	// Exactly to the first instruction and to the last one, and one beyond them.
	for _, count := range []int{0, 1, 195, 196} {
		last := append(insts("a"), padding(count)...)
		met(t, [][]nfa.Inst{slices.Concat([]nfa.Inst{leap(count + 1)}, padding(count), insts("D"))}, "", 0, 0, 0)
		unmet(t, [][]nfa.Inst{slices.Concat([]nfa.Inst{leap(count + 2)}, padding(count), insts("D"))}, "", seek.Wait)
		met(t, [][]nfa.Inst{append(last, two(-count-1, 1), inst("D"))}, "ba", 0, 1, 2)
		unmet(t, [][]nfa.Inst{append(last, two(-count-2, 2), inst("D"))}, "baaa", seek.Wait)
		met(t, [][]nfa.Inst{slices.Concat(insts("T2,1 D a"), padding(count), []nfa.Inst{leap(-count - 2)})}, "", 0, 0, 0)
		met(t, [][]nfa.Inst{slices.Concat(insts("G2 D a"), padding(count), []nfa.Inst{leap(-count - 2)})}, "ba", 0, 1, 2)
	}
}

func TestKinds(t *testing.T) {
	kinds := []int{1<<31 + 1, 1<<32 + 4, -(1 << 32) + 4, math.MaxInt, math.MinInt, math.MinInt + 1, math.MinInt + 4}
	for kind := -300; kind <= 300; kind++ {
		kinds = append(kinds, kind)
	}
	for _, kind := range kinds {
		// Whatever it is, what belongs to the other kinds is set too.
		x := nfa.Inst{Kind: kind, X: 1, Y: 1, Not: true}
		arms := [][]nfa.Inst{{x, inst("b"), inst("D")}}
		switch kind {
		case nfa.One:
			met(t, arms, "ab", 0, 0, 2)
		case nfa.Two, nfa.Go:
			met(t, arms, "ab", 0, 1, 2)
		case nfa.Done:
			met(t, arms, "ab", 0, 0, 0)
		default:
			unmet(t, arms, "ab", seek.Wait)
			unmet(t, [][]nfa.Inst{{inst("a"), x, inst("D")}}, "ab", seek.Wait)
			met(t, [][]nfa.Inst{{two(1, 2), x, inst("b"), inst("D")}}, "ab", 0, 1, 2)
		}
	}
}

func TestFieldsOfOtherKinds(t *testing.T) {
	for _, c := range []struct {
		arm      []nfa.Inst
		from, to int
	}{
		{[]nfa.Inst{{Kind: nfa.One, X: 5, Y: -7, Spans: []regex.Span{span('b', 'b')}}, {Kind: nfa.Done, X: 1, Y: 1}}, 1, 2},
		{[]nfa.Inst{{Kind: nfa.Go, X: 2, Y: 1, Spans: []regex.Span{span('x', 'y')}}, inst("D"), inst("b"), inst("D")}, 1, 2},
		{[]nfa.Inst{{Kind: nfa.Two, X: 1, Y: 9, Not: true}, inst("b"), {Kind: nfa.Done, X: -2, Not: true, Spans: []regex.Span{span(0, 255)}}}, 1, 2},
		{[]nfa.Inst{{Kind: nfa.Done, X: 1, Y: 1, Not: true, Spans: []regex.Span{span('b', 'b')}}}, 0, 0},
	} {
		met(t, [][]nfa.Inst{c.arm}, "abc", 0, c.from, c.to)
	}
}

func manySpans(size int) []regex.Span {
	l := make([]regex.Span, size)
	for i := range l {
		l[i] = span(byte(i), byte(i*i/7))
	}
	return l
}

func TestEveryByte(t *testing.T) {
	for _, x := range []nfa.Inst{
		one(), not(),
		one(span('a', 'c')), not(span('a', 'c')),
		one(span(0, 0)), one(span(255, 255)), one(span(0, 255)), not(span(0, 255)),
		one(span('c', 'a')), not(span('c', 'a')),
		one(span('a', 'c'), span('x', 'x')), not(span('a', 'c'), span('x', 'x')),
		one(span('b', 'd'), span('z', 'a'), span('a', 'b')), not(span('b', 'd'), span('z', 'a'), span('a', 'b')),
		one(manySpans(50)...), not(manySpans(50)...),
	} {
		for i := range 256 {
			c := byte(i)
			arms := [][]nfa.Inst{{x, inst("D")}}
			b := string([]byte{c})
			if nfa.Has(x, c) {
				met(t, arms, b, 0, 0, 1)
			} else {
				unmet(t, arms, b, seek.Wait)
			}
			agrees(t, arms, []byte{c})
			agrees(t, [][]nfa.Inst{{inst("q"), x, x, inst("D")}}, []byte{'q', c, 'b', 'q', 'x', c})
		}
	}
}

// ones are so many instructions One that have the byte a.
func ones(count int) []nfa.Inst {
	return slices.Repeat(insts("a"), count)
}

func TestLongArms(t *testing.T) {
	for _, size := range []int{1, 2, 3, 198, 199, 200} {
		arm := append(ones(size-1), inst("D"))
		text := strings.Repeat("a", 250)
		met(t, [][]nfa.Inst{arm}, text, 0, 0, size-1)
		met(t, [][]nfa.Inst{arm}, "b"+text, 0, min(1, size-1), size-1+min(1, size-1))
		met(t, [][]nfa.Inst{nil, arm, arm}, text, 1, 0, size-1)
		if size > 1 {
			unmet(t, [][]nfa.Inst{arm}, text[:size-2], seek.Wait)
			unmet(t, [][]nfa.Inst{ones(size)}, text, seek.Wait)
			unmet(t, [][]nfa.Inst{ones(size)}, text+text, seek.Over)
		}
		met(t, [][]nfa.Inst{append(padding(size-1), inst("D"))}, text, 0, 0, 0)
	}
	// The last one leads back to the first one.
	round := append(insts("T1,3 a D"), slices.Concat(padding(196), []nfa.Inst{leap(-199)})...)
	met(t, [][]nfa.Inst{round}, "ba", 0, 1, 2)
	// All of them are Two, and each leads to many others.
	var tree []nfa.Inst
	for i := range 198 {
		tree = append(tree, two(i*7%198-i, 1))
	}
	tree = append(tree, insts("a D")...)
	met(t, [][]nfa.Inst{tree}, "bba", 0, 2, 3)
	// Each One is entered again and again, with ever smaller begins further ahead in the list.
	var back []nfa.Inst
	for range 66 {
		back = append(back, insts("T1,3 a G-2")...)
	}
	met(t, [][]nfa.Inst{append(back, insts("c D")...)}, strings.Repeat("a", 255)+"c", 0, 0, 256)
}

// Nothing is promised for arms of more than 200 instructions, but that Look ends; they match nothing, and the others go on.
func TestTooLongArms(t *testing.T) {
	n := numbers(3)
	for _, size := range []int{201, 202, 255, 256, 257, 1000, 100000} {
		for _, arms := range [][][]nfa.Inst{
			{append(ones(size-1), inst("D"))},
			{append(padding(size-1), inst("D"))},
			{append(insts("a D"), padding(size-2)...)},
			{append(slices.Repeat([]nfa.Inst{two(-1, 1)}, size-1), inst("D"))},
			{insts("a D"), append(insts("T1,2 a b D"), ones(size-4)...), insts("b D")},
			{n.insts(size), n.insts(size), n.insts(5)},
		} {
			short := slices.Clone(arms)
			for i, arm := range arms {
				if len(arm) > 200 {
					short[i] = nil
				}
			}
			for _, b := range []string{"", "a", "xab", strings.Repeat("ab", 100), strings.Repeat("a", 300)} {
				found, told := seek.Look(arms, []byte(b))
				if want, toldWant := slowLook(short, []byte(b)); found != want || told != toldWant {
					t.Fatalf("Look with an arm of %d instructions: %v, %d, not %v, %d", size, found, told, want, toldWant)
				}
			}
		}
	}
}

func TestManyArms(t *testing.T) {
	const many = 20000
	arms := slices.Repeat([][]nfa.Inst{insts("q D"), nil, insts("T0,0")}, many)
	unmet(t, arms, "abc", seek.Wait)
	met(t, append(slices.Clone(arms), insts("c D"), insts("b D"), insts("b D")), "abc", 3*many+1, 1, 2)
	met(t, slices.Concat([][]nfa.Inst{insts("b D")}, arms, [][]nfa.Inst{insts("a D"), insts("D")}), "abc", 3*many+2, 0, 0)
}

// P10.2: Wait below 256 bytes, Over from there on.
func TestWindow(t *testing.T) {
	arms := armsOf(t, "x")
	for _, size := range []int{0, 1, 2, 100, 254, 255, 256, 257, 258, 511, 512, 513, 1000, 65536, 65537, 1 << 20} {
		told := seek.Wait
		if size >= 256 {
			told = seek.Over
		}
		text := strings.Repeat("b", size)
		unmet(t, arms, text, told)
		unmet(t, nil, text, told)
		unmet(t, [][]nfa.Inst{}, text, told)
		unmet(t, [][]nfa.Inst{nil, {}, insts("T0,0")}, text, told)
		// The byte that is looked for is the last one.
		if size >= 256 {
			unmet(t, arms, text+"x", seek.Over)
		} else {
			met(t, arms, text+"x", 0, size, size+1)
			met(t, arms, text+"x"+strings.Repeat("x", 1000), 0, size, size+1)
		}
	}
}

func TestEndOfWindow(t *testing.T) {
	text := []byte(strings.Repeat("b", 600))
	for _, at := range []int{250, 254, 255, 256, 257, 300} {
		b := slices.Clone(text)
		copy(b[at:], "xy")
		for _, patterns := range [][]string{{"x"}, {"xy"}, {"b+x"}, {"b+xy"}, {"b*xyb*"}, {"xyb"}, {"xybbbb"}, {"yb", "xy|x"}} {
			arms := armsOf(t, patterns...)
			for _, size := range []int{at, at + 1, at + 2, at + 3, at + 10, 600} {
				agrees(t, arms, b[:size])
			}
		}
	}
	b := slices.Clone(text)
	copy(b[254:], "xyz")
	met(t, armsOf(t, "xy"), string(b), 0, 254, 256)
	met(t, armsOf(t, "xy"), string(b[:256]), 0, 254, 256)
	met(t, armsOf(t, "b*xy"), string(b), 0, 0, 256)
	unmet(t, armsOf(t, "xyz"), string(b), seek.Over)
	unmet(t, armsOf(t, "xyz"), string(b[:256]), seek.Over)
	unmet(t, armsOf(t, "xyz"), string(b[:255]), seek.Wait)
	unmet(t, armsOf(t, "z"), string(b), seek.Over)
	unmet(t, armsOf(t, "yz|z", "b*xyz"), string(b[:257]), seek.Over)
	met(t, armsOf(t, "xyz", "y"), string(b), 1, 255, 256)
}

// pattern returns some pattern of the bytes a and b, with at most deep brackets within each other.
func (n *numbers) pattern(deep int) string {
	s := ""
	for range 1 + n.below(4) {
		switch kind := n.below(6); {
		case kind == 0:
			s += "|"
			continue
		case kind <= 2 && deep > 0:
			s += "(" + n.pattern(deep-1) + ")"
		default:
			s += []string{"a", "b", ".", "[^a]", "[ab]", "()"}[n.below(6)]
		}
		s += []string{"", "", "", "*", "+", "?"}[n.below(6)]
	}
	return s
}

// insts returns some instructions, size of them; most of the jumps are short.
func (n *numbers) insts(size int) []nfa.Inst {
	l := make([]nfa.Inst, size)
	for i := range l {
		switch n.below(12) {
		case 0, 1, 2:
			l[i] = two(n.jump(), n.jump())
		case 3:
			l[i] = leap(n.jump())
		case 4:
			l[i] = inst("D")
		case 5:
			l[i] = nfa.Inst{Kind: n.below(8) - 2, X: n.jump(), Y: n.jump(), Not: n.below(2) == 0, Spans: manySpans(n.below(3))}
		case 6:
			l[i] = not(span('a', 'a'))
		default:
			l[i] = inst([]string{"a", "b", "a", "b", ".", "0"}[n.below(6)])
		}
	}
	return l
}

func (n *numbers) jump() int {
	if n.below(30) == 0 {
		return farAway()[n.below(len(farAway()))]
	}
	return n.below(9) - 3
}

// arms returns some arms, of patterns or of any instructions.
func (n *numbers) arms() [][]nfa.Inst {
	arms := make([][]nfa.Inst, n.below(4))
	for i := range arms {
		if n.below(2) == 0 {
			arms[i] = n.insts(n.below(10))
			continue
		}
		if made, _, e := seek.Arms(list("c", n.pattern(2)+n.pattern(1)[:1])); e == api.OK {
			arms[i] = made[1]
		}
	}
	return arms
}

func TestPatternsAgainstWords(t *testing.T) {
	n := numbers(4)
	seen := [3]int{}
	longest := 0
	for range 10000 {
		var l [][]byte
		for range 1 + n.below(3) {
			// What is wanted behind it keeps most patterns from matching no bytes at all.
			l = append(l, []byte("("+n.pattern(3)+")"+[]string{"", "a", "b", "ab", "ba", "c", "bb"}[n.below(7)]))
		}
		arms, _, e := seek.Arms(l)
		if e != api.OK {
			continue
		}
		b := n.text("aab", n.below(14))
		seen[agrees(t, arms, b)]++
		found, _ := seek.Look(arms, b)
		longest = max(longest, found.To-found.From)
	}
	if seen[seek.Met] < 1000 || seen[seek.Wait] < 1000 || longest < 5 {
		t.Fatalf("too few of a kind: %v, the longest match has %d bytes", seen, longest)
	}
}

func TestAnyInstructionsAgainstWords(t *testing.T) {
	n := numbers(5)
	seen := [3]int{}
	begins := 0
	for range 60000 {
		var arms [][]nfa.Inst
		for range 1 + n.below(3) {
			arms = append(arms, n.insts(n.below(15)))
		}
		b := n.text("ab", n.below(10))
		seen[agrees(t, arms, b)]++
		if found, _ := seek.Look(arms, b); found.From > 0 {
			begins++
		}
	}
	if seen[seek.Met] < 1000 || seen[seek.Wait] < 1000 || begins < 1000 {
		t.Fatalf("too few of a kind: %v, %d begin further on", seen, begins)
	}
}

// everyArm calls check with all lists of these instructions with up to size more of them behind arm.
func everyArm(arm, with []nfa.Inst, size int, check func([]nfa.Inst)) {
	check(arm)
	if size == 0 {
		return
	}
	for _, x := range with {
		everyArm(append(slices.Clone(arm), x), with, size-1, check)
	}
}

func TestShortArmsAgainstWords(t *testing.T) {
	for _, c := range []struct {
		with, texts string
		size        int
	}{
		{"a b . 0 D T1,2 T2,1 T-1,1 T1,-1 T0,1 G1 G2 G-1 G-2 G0 K0 K5", " a b ab ba aab abb", 3},
		{"a b D T1,3 T-1,1 G-2 G2", "a aab abab", 5},
	} {
		everyArm(nil, insts(c.with), c.size, func(arm []nfa.Inst) {
			for _, b := range strings.Split(c.texts, " ") {
				agrees(t, [][]nfa.Inst{arm}, []byte(b))
			}
		})
	}
}

func TestLongTextsAgainstWords(t *testing.T) {
	n := numbers(6)
	seen := [3]int{}
	for range 300 {
		// c comes late or never, so the begins lie far ahead of the ends.
		l := list("(a|b)*c", n.pattern(2)+"c", "ab*a(a|b)bc")
		arms, _, e := seek.Arms(l[n.below(3):])
		if e != api.OK {
			continue
		}
		b := n.text("ab", 200+n.below(100))
		if at := n.below(400); at < len(b) {
			b[at] = 'c'
		}
		seen[agrees(t, arms, b)]++
	}
	if slices.Min(seen[:]) < 20 {
		t.Fatalf("too few of a kind: %v", seen)
	}
}

// fullArm returns an arm of 150 to 200 instructions, most of which consume something, and few of which are Done.
func (n *numbers) fullArm() []nfa.Inst {
	size := 150 + n.below(51)
	l := make([]nfa.Inst, size)
	for i := range l {
		switch n.below(20) {
		case 0, 1, 2, 3, 4:
			l[i] = two(n.below(size)-i, n.below(size)-i)
		case 5:
			l[i] = leap(n.below(size) - i)
		default:
			l[i] = inst([]string{"a", "b", "."}[n.below(3)])
		}
	}
	l[n.below(size)] = inst("D")
	l[n.below(size)] = inst("D")
	return l
}

func TestFullArmsAgainstWords(t *testing.T) {
	n := numbers(7)
	seen := [3]int{}
	begins, longest := 0, 0
	for range 1000 {
		arms := [][]nfa.Inst{n.fullArm(), n.fullArm()}
		b := n.text("abab.", n.below(60))
		seen[agrees(t, arms, b)]++
		found, _ := seek.Look(arms, b)
		begins = max(begins, found.From)
		longest = max(longest, found.To-found.From)
	}
	if seen[seek.Met] < 100 || seen[seek.Wait] < 100 || begins < 10 || longest < 20 {
		t.Fatalf("too few of a kind: %v, begins up to %d, up to %d bytes", seen, begins, longest)
	}
}

// P10.3: what is found stays found when more bytes follow, and its arm matches the bytes between its positions.
func TestFoundStaysFound(t *testing.T) {
	n := numbers(8)
	count := 0
	for range 20000 {
		arms := n.arms()
		b := n.text("abab.\n", n.below(20))
		found, told := seek.Look(arms, b)
		if told != seek.Met {
			for size := range b {
				if _, told := seek.Look(arms, b[:size]); told == seek.Met {
					t.Fatalf("Look(%s, %q): found, but not in %q", short(arms), b[:size], b)
				}
			}
			continue
		}
		count++
		if found.Arm < 0 || found.Arm >= len(arms) || found.From < 0 || found.From > found.To || found.To > len(b) || !matches(arms[found.Arm], b[found.From:found.To]) {
			t.Fatalf("Look(%s, %q): %v is no match", short(arms), b, found)
		}
		for _, more := range []string{"", "a", "b", "\n", "abab", strings.Repeat("a", 256), strings.Repeat("ab", 1000)} {
			met(t, arms, string(b)+more, found.Arm, found.From, found.To)
		}
		for size := range b {
			got, told := seek.Look(arms, b[:size])
			if size >= found.To && (got != found || told != seek.Met) || size < found.To && told != seek.Wait {
				t.Fatalf("Look(%s, %q): %v, but in %q %v, %d", short(arms), b, found, b[:size], got, told)
			}
		}
	}
	if count < 1000 {
		t.Fatalf("only %d were found", count)
	}
}

func TestFoundStaysFoundAtTheEndOfTheWindow(t *testing.T) {
	for _, s := range []string{"c", "b*c", "(a|b)+c", "bbc", "c|b"} {
		arms := armsOf(t, "ca", s)
		b := strings.Repeat("b", 255) + "c"
		found, told := seek.Look(arms, []byte(b))
		if told != seek.Met || found.Arm != 1 || !matches(arms[1], []byte(b[found.From:found.To])) {
			t.Fatalf("Look for %q: %v, %d", s, found, told)
		}
		for _, more := range []string{"a", "c", strings.Repeat("ca", 500)} {
			met(t, arms, b+more, found.Arm, found.From, found.To)
		}
	}
}

// deepCopy returns arms that share no memory with these.
func deepCopy(arms [][]nfa.Inst) [][]nfa.Inst {
	arms = slices.Clone(arms)
	for i := range arms {
		arms[i] = slices.Clone(arms[i])
		for k := range arms[i] {
			arms[i][k].Spans = slices.Clone(arms[i][k].Spans)
		}
	}
	return arms
}

func TestArmsLeavesItsArgumentAlone(t *testing.T) {
	for _, patterns := range [][]string{{}, {"a"}, {"a|b*", "", "[^a-c]", `\w\s`}, {"a", "("}, {strings.Repeat("a", 81)}, {"(((((((((", "a"}} {
		// With more capacity than length, so that an append to an argument would be seen.
		whole := append(list(patterns...), []byte("xy"))
		for i := range whole {
			whole[i] = append(whole[i], 1, 2, 3)
		}
		before := slices.Clone(whole)
		for i := range before {
			before[i] = bytes.Clone(before[i])
		}
		l := whole[:len(patterns):len(whole)]
		for i := range l {
			l[i] = l[i][:len(patterns[i])]
		}
		arms, i, e := seek.Arms(l)
		for k := range whole {
			if whole[k] = whole[k][:len(before[k])]; !bytes.Equal(whole[k], before[k]) {
				t.Fatalf("Arms(%q) changed its argument to %q", patterns, whole)
			}
		}
		// If the instructions or a later call used the arguments' memory, they would change with it.
		for k := range whole {
			clear(whole[k])
		}
		clear(whole)
		again, j, f := seek.Arms(list(patterns...))
		if !sameArms(arms, again) || i != j || e != f {
			t.Fatalf("Arms(%q): %v, %d, error %d; then %v, %d, error %d", patterns, arms, i, e, again, j, f)
		}
	}
}

func TestArmsAreNewMemory(t *testing.T) {
	patterns := []string{"a|b*", "[ab][^c]", "", "a|b*", `\w\s.`, "[ab][^c]"}
	arms, want := armsOf(t, patterns...), armsOf(t, patterns...)
	// Whoever appends to a list of the answer, or writes to it, must change no other one, in the same answer or in another one.
	for i, arm := range arms {
		for k := range arm {
			spans := arm[k].Spans
			_ = append(spans, span(1, 2), span(3, 4))
			for j := range spans {
				spans[j] = span(5, 6)
			}
			if !sameInsts(arm[k+1:], want[i][k+1:]) {
				t.Fatalf("Arms(%q): the instruction %d of the arm %d shares its spans with one behind it", patterns, k, i)
			}
		}
		_ = append(arm, two(8, 9))
		clear(arm)
		if !sameArms(arms[i+1:], want[i+1:]) {
			t.Fatalf("Arms(%q): the arm %d shares memory with one behind it", patterns, i)
		}
	}
	_ = append(arms, insts("a D"))
	clear(arms)
	if again := armsOf(t, patterns...); !sameArms(again, want) {
		t.Fatalf("Arms(%q): %v, and later %v", patterns, want, again)
	}
}

func TestLookLeavesItsArgumentsAlone(t *testing.T) {
	n := numbers(9)
	for range 3000 {
		arms, text := n.arms(), n.text("ab", n.below(20))
		if n.below(10) == 0 {
			text = n.text("ab", 250+n.below(20))
		}
		found, told := seek.Look(arms, text)

		// With more capacity than length, so that an append to an argument would be seen.
		wholeArms := append(deepCopy(arms), n.insts(3))
		for i := range wholeArms {
			wholeArms[i] = append(wholeArms[i], two(1, 2), leap(3))
			for k := range wholeArms[i] {
				wholeArms[i][k].Spans = append(wholeArms[i][k].Spans, span(1, 2))
			}
		}
		wholeText := append(bytes.Clone(text), 1, 2, 3)
		armsBefore, textBefore := deepCopy(wholeArms), bytes.Clone(wholeText)
		for i := range arms {
			wholeArms[i] = wholeArms[i][:len(arms[i])]
			for k := range arms[i] {
				wholeArms[i][k].Spans = wholeArms[i][k].Spans[:len(arms[i][k].Spans)]
			}
		}
		got, toldGot := seek.Look(wholeArms[:len(arms)], wholeText[:len(text)])
		if got != found || toldGot != told {
			t.Fatalf("Look(%s, %s): %v, %d, then %v, %d", short(arms), shown(text), found, told, got, toldGot)
		}
		for i := range wholeArms {
			wholeArms[i] = wholeArms[i][:len(armsBefore[i])]
			for k := range wholeArms[i] {
				wholeArms[i][k].Spans = wholeArms[i][k].Spans[:len(armsBefore[i][k].Spans)]
			}
		}
		if !sameArms(wholeArms, armsBefore) || !bytes.Equal(wholeText, textBefore) {
			t.Fatalf("Look(%s, %s) changed its arguments", short(arms), shown(text))
		}

		// Nor is anything kept of them.
		for i := range wholeArms {
			for k := range wholeArms[i] {
				clear(wholeArms[i][k].Spans)
			}
			clear(wholeArms[i])
		}
		clear(wholeArms)
		clear(wholeText)
		if again, toldAgain := seek.Look(arms, text); again != found || toldAgain != told {
			t.Fatalf("Look(%s, %s): %v, %d, then %v, %d", short(arms), shown(text), found, told, again, toldAgain)
		}
	}
}

func TestEarlierCallsDoNotMatter(t *testing.T) {
	type call struct {
		arms [][]nfa.Inst
		b    []byte
	}
	type answer struct {
		found seek.Found
		told  int
	}
	n := numbers(10)
	calls := []call{{nil, nil}, {armsOf(t, "b+", "ab"), []byte("xabb")}, {armsOf(t, "x"), make([]byte, 300)}, {[][]nfa.Inst{append(ones(199), inst("D"))}, []byte(strings.Repeat("a", 220))}, {[][]nfa.Inst{ones(250)}, []byte("a")}}
	for range 30 {
		calls = append(calls, call{n.arms(), n.text("ab", n.below(15))})
	}
	look := func(c call) answer {
		found, told := seek.Look(c.arms, c.b)
		return answer{found, told}
	}
	for _, c := range calls {
		want := look(c)
		for _, other := range calls {
			look(other)
			seek.Arms(list("a", "(b", strings.Repeat("a", 90)))
			if got := look(c); got != want {
				t.Fatalf("Look(%s, %s): %v; behind another call %v", short(c.arms), shown(c.b), want, got)
			}
		}
	}
	for _, patterns := range [][]string{{}, {"a|b", "c*"}, {"a", "("}, {strings.Repeat("a", 81)}} {
		want, i, e := seek.Arms(list(patterns...))
		for _, c := range calls {
			look(c)
			seek.Arms(list("b", "c|d", "*"))
			if got, j, f := seek.Arms(list(patterns...)); !sameArms(got, want) || i != j || e != f {
				t.Fatalf("Arms(%q): %v, %d, error %d; behind other calls %v, %d, error %d", patterns, want, i, e, got, j, f)
			}
		}
	}
}

// Calls that go on at the same time do not touch each other.
func TestCallsAtTheSameTime(t *testing.T) {
	arms := armsOf(t, "(a|b)*c", "bc")
	b := strings.Repeat("ab", 100)
	results := make(chan seek.Found)
	for i := range 8 {
		go func() {
			for range 50 {
				seek.Look(arms, []byte(b[:i]+"c"))
			}
			found, _ := seek.Look(arms, []byte(b[:i]+"c"))
			results <- found
		}()
	}
	sum := 0
	for range 8 {
		found := <-results
		sum += found.To
		if found.Arm != 0 || found.From != 0 {
			t.Errorf("Look: %v", found)
		}
	}
	if sum != 36 {
		t.Errorf("the ends amount to %d", sum)
	}
}
