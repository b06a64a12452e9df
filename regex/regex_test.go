package regex_test

import (
	"bytes"
	"slices"
	"strings"
	"testing"

	"davit/api"
	"davit/regex"
)

// The call has exactly this signature, and the kinds have these numbers.
var (
	_ func([]byte) ([]regex.Op, int, api.Errno) = regex.Parse

	_ = [1]int{}[regex.Set-1]
	_ = [1]int{}[regex.None-2]
	_ = [1]int{}[regex.Cat-3]
	_ = [1]int{}[regex.Alt-4]
	_ = [1]int{}[regex.Star-5]
	_ = [1]int{}[regex.Plus-6]
	_ = [1]int{}[regex.Opt-7]
)

// numbers yields the same numbers in every test run.
type numbers uint64

func (n *numbers) below(most int) int {
	*n = *n*6364136223846793005 + 1442695040888963407
	return int(uint32(*n>>33)) % most
}

// yields checks that s is a pattern with these ops, and that they can be executed to one value (P8.2).
func yields(t *testing.T, s string, want ...regex.Op) {
	t.Helper()
	l, i, e := regex.Parse([]byte(s))
	if e != api.OK || i != 0 || !sameOps(l, want) {
		t.Fatalf("Parse(%q): %v, %d, error %d, not %v", s, l, i, e, want)
	}
	if size, ok := leftOver(l); !ok || size != 1 {
		t.Fatalf("Parse(%q): %v leaves %d values, %v", s, l, size, ok)
	}
}

// fails checks that Parse returns this error at this index, and no ops.
func fails(t *testing.T, s string, index int, want api.Errno) {
	t.Helper()
	if l, i, e := regex.Parse([]byte(s)); len(l) != 0 || i != index || e != want {
		t.Fatalf("Parse(%q): %v, %d, error %d, not error %d at %d", s, l, i, e, want, index)
	}
}

// agrees checks Parse against the second parser, and returns the index and the error that both of them return.
func agrees(t *testing.T, s string) (int, api.Errno) {
	t.Helper()
	l, i, e := slowParse(s)
	if e == api.OK {
		yields(t, s, l...)
	} else {
		fails(t, s, i, e)
	}
	return i, e
}

// opsOf returns the ops that are written down: a byte for each Set of that byte, 0 for None, & for Cat, and | * + ? for themselves.
func opsOf(s string) []regex.Op {
	kinds := map[byte]int{'0': regex.None, '&': regex.Cat, '|': regex.Alt, '*': regex.Star, '+': regex.Plus, '?': regex.Opt}
	var l []regex.Op
	for _, c := range []byte(s) {
		if kind, ok := kinds[c]; ok {
			l = append(l, op(kind))
		} else {
			l = append(l, set(at(c)))
		}
	}
	return l
}

func TestExample(t *testing.T) {
	yields(t, "a|b*", set(at('a')), set(at('b')), op(regex.Star), op(regex.Alt))
}

func TestAtoms(t *testing.T) {
	for s, want := range map[string]regex.Op{
		".":    setNot(at(10)),
		`\d`:   set(to('0', '9')),
		`\w`:   set(to('0', '9'), to('A', 'Z'), at('_'), to('a', 'z')),
		`\s`:   set(to(9, 13), at(32)),
		`\n`:   set(at(10)),
		`\t`:   set(at(9)),
		`\r`:   set(at(13)),
		`\.`:   set(at('.')),
		`\\`:   set(at('\\')),
		`\_`:   set(at('_')),
		"\\\n": set(at(10)),

		"[a]":         set(at('a')),
		"[^a]":        setNot(at('a')),
		"[a-c]":       set(to('a', 'c')),
		"[^a-c]":      setNot(to('a', 'c')),
		"[a-a]":       set(at('a')),
		"[cab]":       set(at('c'), at('a'), at('b')),
		"[aa]":        set(at('a'), at('a')),
		"[b-da-cc]":   set(to('b', 'd'), to('a', 'c'), at('c')),
		"[^a-cx0-9]":  setNot(to('a', 'c'), at('x'), to('0', '9')),
		`[\n\t\r]`:    set(at(10), at(9), at(13)),
		`[^a-c\n]`:    setNot(to('a', 'c'), at(10)),
		`[\t-\r]`:     set(to(9, 13)),
		`[\n-a]`:      set(to(10, 'a')),
		`[ -\~]`:      set(to(' ', '~')),
		`[\]\\\-\^]`:  set(at(']'), at('\\'), at('-'), at('^')),
		`[\]-\^]`:     set(to(']', '^')),
		`[+-\-]`:      set(to('+', '-')),
		`[\--\.]`:     set(to('-', '.')),
		`[\^-\_]`:     set(to('^', '_')),
		`[^\^]`:       setNot(at('^')),
		`[\n-\n]`:     set(at(10)),
		"[.]":         set(at('.')),
		"[[]":         set(at('[')),
		"[^[]":        setNot(at('[')),
		"[()*+?|]":    set(at('('), at(')'), at('*'), at('+'), at('?'), at('|')),
		`[\(\[\*\.]`:  set(at('('), at('['), at('*'), at('.')),
		"[\x00-\xff]": set(to(0, 255)),
		"[\n]":        set(at(10)),
		"[dws]":       set(at('d'), at('w'), at('s')),
		"(a)":         set(at('a')),
		"((.))":       setNot(at(10)),
		"()":          op(regex.None),
	} {
		yields(t, s, want)
	}
}

func TestEveryByteAlone(t *testing.T) {
	for i := range 256 {
		c := byte(i)
		s := string([]byte{c})
		switch {
		case c == '.':
			yields(t, s, setNot(at(10)))
		case strings.Contains(`)]*+?`, s):
			fails(t, s, 0, api.ErrForm)
		case strings.Contains(`([\`, s):
			fails(t, s, 1, api.ErrForm)
		case c == '|':
			yields(t, s, op(regex.None), op(regex.None), op(regex.Alt))
		default:
			yields(t, s, set(at(c)))
		}
	}
}

func TestEveryByteEscaped(t *testing.T) {
	letters := map[string]regex.Op{"n": set(at(10)), "t": set(at(9)), "r": set(at(13))}
	classes := map[string]regex.Op{"d": set(to('0', '9')), "w": set(to('0', '9'), to('A', 'Z'), at('_'), to('a', 'z')), "s": set(to(9, 13), at(32))}
	for i := range 256 {
		s := string([]byte{byte(i)})
		letter, isLetter := letters[s]
		class, isClass := classes[s]
		switch {
		case isLetter:
			yields(t, `\`+s, letter)
			yields(t, `[\`+s+`]`, letter)
		case isClass:
			yields(t, `\`+s, class)
			fails(t, `[\`+s+`]`, 2, api.ErrForm)
		case strings.Contains(lettersAndDigits, s):
			fails(t, `\`+s, 1, api.ErrForm)
			fails(t, `[\`+s+`]`, 2, api.ErrForm)
			fails(t, `[^a\`+s+`]`, 4, api.ErrForm)
		default:
			yields(t, `\`+s, set(at(byte(i))))
			yields(t, `[\`+s+`]`, set(at(byte(i))))
			yields(t, `[^\`+s+`]`, setNot(at(byte(i))))
		}
	}
}

func TestEveryByteInSet(t *testing.T) {
	for i := range 256 {
		c := byte(i)
		s := string([]byte{c})
		if strings.Contains(`]\-^`, s) {
			continue
		}
		yields(t, "["+s+"]", set(at(c)))
		yields(t, "[^"+s+"]", setNot(at(c)))
		yields(t, "["+s+s+"]", set(at(c), at(c)))
		yields(t, "["+s+"-"+s+"]", set(at(c)))
		yields(t, "[\x00-"+s+"]", set(to(0, c)))
		yields(t, "["+s+"-\xff]", set(to(c, 255)))
		if c < 255 {
			fails(t, "[\xff-"+s+"]", 3, api.ErrForm)
		}
		if c > 0 {
			fails(t, "["+s+"-\x00]", 3, api.ErrForm)
		}
	}
}

func TestOrder(t *testing.T) {
	for s, want := range map[string]string{
		"":     "0",
		"a":    "a",
		"ab":   "ab&",
		"abc":  "ab&c&",
		"abcd": "ab&c&d&",
		"a*":   "a*",
		"a+":   "a+",
		"a?":   "a?",
		"a*b":  "a*b&",
		"ab*":  "ab*&",
		"a+b?": "a+b?&",
		"ab*c": "ab*&c&",

		"a|b":     "ab|",
		"a|b|c":   "ab|c|",
		"ab|cd":   "ab&cd&|",
		"a*|b+c?": "a*b+c?&|",

		"|":    "00|",
		"||":   "00|0|",
		"|a":   "0a|",
		"a|":   "a0|",
		"a||b": "a0|b|",
		"|a|":  "0a|0|",
		"|ab":  "0ab&|",
		"ab|":  "ab&0|",

		"()":                "0",
		"()()":              "00&",
		"()*":               "0*",
		"(())+":             "0+",
		"(|)":               "00|",
		"(|a)?":             "0a|?",
		"(a|)":              "a0|",
		"(a||b)":            "a0|b|",
		"(a)":               "a",
		"((a))":             "a",
		"(a)*":              "a*",
		"(a*)*":             "a**",
		"((a+)?)*":          "a+?*",
		"(ab)c":             "ab&c&",
		"a(bc)":             "abc&&",
		"a(bc)*d":           "abc&*&d&",
		"(a|b)c+":           "ab|c+&",
		"a(b|c)":            "abc|&",
		"a|(b|c)":           "abc||",
		"(a|b)|c":           "ab|c|",
		"(a)(b)?":           "ab?&",
		"x(a|(b|)(|c)d)*|y": "xab0|0c|&d&|*&y|",
	} {
		yields(t, s, opsOf(want)...)
	}
}

func TestLength(t *testing.T) {
	yields(t, strings.Repeat("a", 80), opsOf("a"+strings.Repeat("a&", 79))...)
	yields(t, strings.Repeat("|", 80), opsOf("0"+strings.Repeat("0|", 80))...)
	yields(t, strings.Repeat("a*", 40), opsOf("a*"+strings.Repeat("a*&", 39))...)
	yields(t, "["+strings.Repeat("a", 78)+"]", set(slices.Repeat([]regex.Span{at('a')}, 78)...))
	yields(t, strings.Repeat("()", 40), opsOf("0"+strings.Repeat("0&", 39))...)
	fails(t, strings.Repeat("a", 79)+")", 79, api.ErrForm)
	fails(t, strings.Repeat("a", 79)+"(", 80, api.ErrForm)
	fails(t, "["+strings.Repeat("a", 79), 80, api.ErrForm)

	for _, size := range []int{81, 82, 160, 1000} {
		fails(t, strings.Repeat("a", size), 0, api.ErrFull)
		fails(t, strings.Repeat("*", size), 0, api.ErrFull)
		fails(t, strings.Repeat("(", size), 0, api.ErrFull)
		fails(t, strings.Repeat("\x00", size), 0, api.ErrFull)
	}
	fails(t, strings.Repeat("a", 80)+"(", 0, api.ErrFull)
}

func TestDeep(t *testing.T) {
	open, closed := strings.Repeat("(", 8), strings.Repeat(")", 8)
	yields(t, open+closed, op(regex.None))
	yields(t, open+"a"+closed, set(at('a')))
	yields(t, open+"a"+closed+open+"b"+closed, opsOf("ab&")...)
	yields(t, strings.Repeat("(", 7)+"()()|()"+strings.Repeat(")", 7)+"|"+open+closed, opsOf("00&0|0|")...)
	fails(t, "("+open+"a)"+closed, 8, api.ErrDeep)
	fails(t, open+"()"+closed, 8, api.ErrDeep)
	fails(t, open+"()", 8, api.ErrDeep)
	fails(t, open+"(", 8, api.ErrDeep)
	fails(t, strings.Repeat("(", 80), 8, api.ErrDeep)
	fails(t, "a|b*"+open+"x(y)"+closed, 13, api.ErrDeep)
	fails(t, "((((((()))))))"+open+"()"+closed, 22, api.ErrDeep)
	fails(t, strings.Repeat("(", 7)+"()()(())"+strings.Repeat(")", 7), 12, api.ErrDeep)

	// A ( that is no atom's is nested in nothing, and nothing is nested in it.
	yields(t, open+`\(`+closed, set(at('(')))
	yields(t, open+"[(]"+closed, set(at('(')))
	yields(t, open+"[(-)]"+closed, set(to('(', ')')))
	yields(t, `\([(]`+open+closed, set(at('(')), set(at('(')), op(regex.Cat), op(regex.None), op(regex.Cat))
}

func TestDeepAndForm(t *testing.T) {
	open := strings.Repeat("(", 8)
	// The error ahead of the bracket that is too deep is returned, and not the one behind it.
	fails(t, "*"+open+"(", 0, api.ErrForm)
	fails(t, "((((a**((((((((", 6, api.ErrForm)
	fails(t, open+"*(", 8, api.ErrForm)
	fails(t, open+"](", 8, api.ErrForm)
	fails(t, open+`\q(`, 9, api.ErrForm)
	fails(t, open+"[](", 9, api.ErrForm)
	fails(t, open+"[(", 10, api.ErrForm)
	fails(t, open+`\`, 9, api.ErrForm)
	fails(t, open, 8, api.ErrForm)
	fails(t, open+"(*", 8, api.ErrDeep)
	fails(t, open+"(]", 8, api.ErrDeep)
	fails(t, open+"(a", 8, api.ErrDeep)
	fails(t, open+"a(**)", 9, api.ErrDeep)
	fails(t, open+`|(\`, 9, api.ErrDeep)
}

func TestForm(t *testing.T) {
	for s, index := range map[string]int{
		"*": 0, "+": 0, "?": 0,
		"*a": 0, "(*)": 1, "(+": 1, "|?": 1, "a|*": 2, "a|+b": 2, "(a|*)": 3, "()(?)": 3,
		"a**": 2, "a*+": 2, "a*?": 2, "a+*": 2, "a++": 2, "a+?": 2, "a?*": 2, "a?+": 2, "a??": 2,
		"(a)*+": 4, "[a]??": 4, `\d*+`: 3, ".**": 2, "ab*c**d": 5,

		")": 0, "a)": 1, "())": 2, "(a))b": 3, "a|)": 2, "*)": 0, `\()`: 2, "[(])": 3, "(()))(": 4,

		"]": 0, "a]": 1, "a*]": 2, "[a]]": 3, "(])": 1, "|]": 1,

		`\q`: 1, `\0`: 1, `\9`: 1, `\D`: 1, `\W`: 1, `\S`: 1, `\N`: 1, `\A`: 1, `\Z`: 1, `\a`: 1, `\b`: 1, `\z`: 1, `ab\x`: 3, `(\c)`: 2,

		"[]": 1, "[^]": 2, "[]]": 1, "[^]]": 2, "[]a]": 1, "a[]": 2,
		`[\d]`: 2, `[\w]`: 2, `[\s]`: 2, `[\q]`: 2, `[\0]`: 2, `[^\d]`: 3, `[a\d]`: 3, `[a-\d]`: 4, `[\a-z]`: 2, `[a-\z]`: 4,

		"[b-a]": 3, "[xb-a]": 4, "[a-cb-a]": 6, `[a-\n]`: 4, `[\n-\t]`: 5, `[\r-\n]`: 5, `[b-\]]`: 4, `[\~-a]`: 4, `[\]-\\]`: 5, "[^z-a]": 4, "[a-Z]": 3,

		"[-]": 1, "[-a]": 1, "[^-a]": 2, "[a-]": 3, "[a-b-c]": 4, "[a-b-]": 4, "[a--]": 3, "[!--]": 3, `[\n-]`: 4, "[--a]": 1, "[^-]": 2, "[a-b--c]": 4,
		"[^^]": 2, "[^^a]": 2, "[a^]": 2, "[ab^c]": 3, "[A-^]": 3, "[^a^]": 3, "[a-b^]": 4, `[\^^]`: 3,
		"[A-]]": 3, "[^a-]": 4,
	} {
		fails(t, s, index, api.ErrForm)
		// What follows does not change where the error is.
		for _, more := range []string{"a", "]", ")", "*", `\`, "\xff", "])"} {
			fails(t, s+more, index, api.ErrForm)
		}
	}
}

func TestUnfinished(t *testing.T) {
	for _, s := range []string{
		"(", "((", "a(", "a(b", "(a", "(a|", "(|", "(()", "()(", "a(b)(c*", "(a)|(",
		`\`, `a\`, `(\`, `a|\`, `\\\`, `\d\`, `a*\`,
		"[", "[^", "[a", "[^a", "[a-", "[a-b", "[ab", "[^a-", "[a-bc-", "a[", "([", "([a]", "[[", "[(", "[)", "[*", "[|",
		`[\`, `[^\`, `[a\`, `[a-\`, `[\]`, `[\]-`, `[\n`, `[\n-`, `[\n-\n`, `[\\`, "[\xff-", "[\xff-\\", `[\--\`,
	} {
		fails(t, s, len(s), api.ErrForm)
	}
}

func TestEmpty(t *testing.T) {
	for _, s := range [][]byte{nil, {}} {
		l, i, e := regex.Parse(s)
		if !sameOps(l, []regex.Op{op(regex.None)}) || i != 0 || e != api.OK {
			t.Fatalf("Parse of no bytes: %v, %d, error %d", l, i, e)
		}
	}
}

// extend checks s with each of these bytes behind it, and so on, up to size bytes more, but nothing behind what can't begin a pattern.
func extend(t *testing.T, s, with string, size int) {
	t.Helper()
	if size == 0 {
		return
	}
	for _, c := range []byte(with) {
		longer := s + string([]byte{c})
		if i, e := agrees(t, longer); e == api.OK || i == len(longer) {
			extend(t, longer, with, size-1)
		}
	}
}

func everyByte() string {
	b := make([]byte, 256)
	for i := range b {
		b[i] = byte(i)
	}
	return string(b)
}

func TestShortAgainstWords(t *testing.T) {
	agrees(t, "")
	extend(t, "", everyByte(), 2)
	extend(t, "", `()[]*?|\.-^adn1`, 4)
	extend(t, "", `([])*|\-^n`, 5)
}

func TestSetsAgainstWords(t *testing.T) {
	for _, s := range []string{"[", "[^", "[b", "[b-", `[\`, `[b-\`, `[\n-`, `[\n-\`, "[b-c", "[b]", "[b-c]"} {
		extend(t, s, everyByte(), 1)
	}
	extend(t, "[", `]\-^an9`, 6)
	extend(t, "[^", `]\-^bt[`, 5)
}

// guess returns some bytes, most of them such as mean something.
func guess(n *numbers, of string) string {
	var b []byte
	for range n.below(25) {
		c := of[n.below(len(of))]
		if n.below(40) == 0 {
			c = byte(n.below(256))
		}
		b = append(b, c)
	}
	return string(b)
}

// pattern returns some pattern with at most deep brackets within each other.
func (n *numbers) pattern(deep int) string {
	s := n.branch(deep)
	for n.below(3) == 0 {
		s += "|" + n.branch(deep)
	}
	return s
}

func (n *numbers) branch(deep int) string {
	s := ""
	for range n.below(4) {
		s += n.atom(deep) + []string{"", "", "*", "+", "?"}[n.below(5)]
	}
	return s
}

func (n *numbers) atom(deep int) string {
	if deep > 0 && n.below(2) == 0 {
		return "(" + n.pattern(deep-1) + ")"
	}
	l := []string{"a", "b", ".", "-", "^", "\n", "\x00", "\xff", `\d`, `\w`, `\s`, `\n`, `\(`, `\\`, "[ab]", "[^a-c]", `[\]]`, `[^\-\n]`, "[(]", `[a-\~_]`}
	return l[n.below(len(l))]
}

func TestGuessesAgainstWords(t *testing.T) {
	n := numbers(8)
	seen := map[api.Errno]int{}
	for range 1500 {
		for _, of := range []string{`ab()|*`, `a()[]^-\n*+?|.`, `((((((()a|[\`, `[[ab-\]^`} {
			_, e := agrees(t, guess(&n, of))
			seen[e]++
		}
	}
	if seen[api.OK] < 50 || seen[api.ErrForm] < 50 || seen[api.ErrDeep] < 50 {
		t.Fatalf("too few of a kind: %v", seen)
	}
}

func TestPatternsAgainstWords(t *testing.T) {
	n := numbers(9)
	read := 0
	for range 3000 {
		s := n.pattern(1 + n.below(9))
		if len(s) == 0 || len(s) > 30 {
			continue
		}
		if _, e := agrees(t, s); e == api.OK {
			read++
		}
		b := []byte(s)
		b[n.below(len(b))] = `()[]*\|a-^`[n.below(10)]
		agrees(t, string(b))
	}
	if read < 500 {
		t.Fatalf("only %d patterns were read", read)
	}
}

// Longer ones than the second parser can read in time.
func TestLongPatterns(t *testing.T) {
	n := numbers(10)
	for range 20000 {
		s := n.pattern(1 + n.below(8))
		l, i, e := regex.Parse([]byte(s))
		if len(s) > 80 {
			if len(l) != 0 || i != 0 || e != api.ErrFull {
				t.Fatalf("Parse(%q): %v, %d, error %d", s, l, i, e)
			}
			continue
		}
		if size, ok := leftOver(l); e != api.OK || i != 0 || !ok || size != 1 {
			t.Fatalf("Parse(%q): %v, %d, error %d, leaves %d, %v", s, l, i, e, size, ok)
		}
	}
}

// Any bytes at all end with ops, or with an error whose index is that of a byte that can't stand there, or the length.
func TestAnyBytes(t *testing.T) {
	n := numbers(11)
	for range 100000 {
		b := make([]byte, n.below(100))
		for i := range b {
			b[i] = byte(n.below(256))
			if n.below(2) == 0 {
				b[i] = `()[]*+?|\.-^adn1`[n.below(16)]
			}
		}
		l, i, e := regex.Parse(b)
		switch {
		case len(b) > 80:
			if len(l) != 0 || i != 0 || e != api.ErrFull {
				t.Fatalf("Parse(%q): %v, %d, error %d", b, l, i, e)
			}
		case e == api.OK:
			if size, ok := leftOver(l); i != 0 || !ok || size != 1 {
				t.Fatalf("Parse(%q): %v, %d, leaves %d, %v", b, l, i, size, ok)
			}
		case e != api.ErrForm && e != api.ErrDeep || len(l) != 0 || i < 0 || i > len(b):
			t.Fatalf("Parse(%q): %v, %d, error %d", b, l, i, e)
		default:
			// The bytes up to the error alone have no error but that they end.
			if m, j, f := regex.Parse(b[:i]); f != api.OK && (f != api.ErrForm || j != i || len(m) != 0) {
				t.Fatalf("Parse(%q): error %d at %d; the bytes up to there: error %d at %d", b, e, i, f, j)
			}
		}
	}
}

var some = []string{"", "a", "ab|c*", "[a-c^]", `[^a-c\]]\w\d\s.\n`, `((\w|\w)+[\t-\r])?`, "a(", "*", "(((((((((", strings.Repeat("a", 80), strings.Repeat("a", 81)}

func TestArgumentIsLeftAlone(t *testing.T) {
	for _, s := range some {
		// With more capacity than length, so that an append to the argument would be seen.
		whole := append([]byte(s), "\x01\x02\x03\x04"...)
		before := bytes.Clone(whole)
		b := whole[:len(s)]
		l, i, e := regex.Parse(b)
		if !bytes.Equal(whole, before) {
			t.Fatalf("Parse(%q) changed its argument to %q", before, whole)
		}
		// If the ops or a later call used the argument's memory, they would change with it.
		clear(whole)
		m, j, f := regex.Parse([]byte(s))
		if !sameOps(l, m) || i != j || e != f {
			t.Fatalf("Parse(%q): %v, %d, error %d; then %v, %d, error %d", s, l, i, e, m, j, f)
		}
	}
}

func TestOpsAreNewMemory(t *testing.T) {
	for _, s := range some {
		l, _, _ := regex.Parse([]byte(s))
		want, _, _ := regex.Parse([]byte(s))
		// Whoever appends to a list of spans, or writes to it, must change no other one, in the same answer or in another one.
		for k := range l {
			spans := l[k].Spans
			_ = append(spans, regex.Span{From: 1, To: 2}, regex.Span{From: 3, To: 4})
			for j := range spans {
				spans[j] = regex.Span{From: 5, To: 6}
			}
			if !sameOps(l[k+1:], want[k+1:]) {
				t.Fatalf("Parse(%q): the op %d shares its spans with one behind it", s, k)
			}
		}
		_ = append(l, op(regex.Cat))
		clear(l)
		if again, _, _ := regex.Parse([]byte(s)); !sameOps(again, want) {
			t.Fatalf("Parse(%q): %v, and later %v", s, want, again)
		}
	}
}
