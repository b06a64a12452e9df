package lex_test

import (
	"bytes"
	"fmt"
	"slices"
	"strconv"
	"strings"
	"testing"

	"davit/api"
	"davit/lex"
)

// The call has exactly this signature, and the kinds have these numbers.
var (
	_ func([]byte) ([]lex.Token, int, api.Errno) = lex.Cut

	_ = struct {
		Kind, At, N int
		Text        []byte
	}(lex.Token{})

	_ = [1]int{}[lex.Word-1]
	_ = [1]int{}[lex.Number-2]
	_ = [1]int{}[lex.Text-3]
)

// numbers yields the same numbers in every test run.
type numbers uint64

func (n *numbers) below(most int) int {
	*n = *n*6364136223846793005 + 1442695040888963407
	return int(uint32(*n>>33)) % most
}

// text returns some bytes of these, size of them.
func (n *numbers) text(of string, size int) string {
	b := make([]byte, size)
	for i := range b {
		b[i] = of[n.below(len(of))]
	}
	return string(b)
}

func word(at int, s string) lex.Token {
	return lex.Token{Kind: lex.Word, At: at, Text: []byte(s)}
}

func number(at, n int) lex.Token {
	return lex.Token{Kind: lex.Number, At: at, N: n}
}

func text(at int, s string) lex.Token {
	return lex.Token{Kind: lex.Text, At: at, Text: []byte(s)}
}

func sameToken(a, b lex.Token) bool {
	return a.Kind == b.Kind && a.At == b.At && a.N == b.N && bytes.Equal(a.Text, b.Text)
}

func same(a, b []lex.Token) bool {
	return slices.EqualFunc(a, b, sameToken)
}

// shown tells of a text in a message.
func shown(s string) string {
	if len(s) <= 300 {
		return fmt.Sprintf("%q", s)
	}
	return fmt.Sprintf("%q .. %d bytes", s[:300], len(s))
}

// yields checks that s is split into these tokens.
func yields(t *testing.T, s string, want ...lex.Token) {
	t.Helper()
	l, i, e := lex.Cut([]byte(s))
	if e != api.OK || i != 0 || !same(l, want) {
		t.Fatalf("Cut(%s): %v, %d, error %d, not %v", shown(s), l, i, e, want)
	}
}

// fails checks that Cut returns this error at this index, and no tokens.
func fails(t *testing.T, s string, index int, want api.Errno) {
	t.Helper()
	if l, i, e := lex.Cut([]byte(s)); len(l) != 0 || i != index || e != want {
		t.Fatalf("Cut(%s): %v, %d, error %d, not error %d at %d", shown(s), l, i, e, want, index)
	}
}

// agrees checks Cut against the second one, and each token alone (P11.2); it returns the tokens' number and the error that both return.
func agrees(t *testing.T, s string) (int, api.Errno) {
	t.Helper()
	l, i, e := slowCut([]byte(s))
	if e != api.OK {
		fails(t, s, i, e)
		return 0, e
	}
	var want []lex.Token
	for _, m := range l {
		want = append(want, m.Token)
	}
	yields(t, s, want...)
	end := 0
	for _, m := range l {
		if m.At < end || m.end > len(s) {
			t.Fatalf("Cut(%s): the token from %d to %d does not lie behind %d", shown(s), m.At, m.end, end)
		}
		end = m.end
		alone := m.Token
		alone.At = 0
		yields(t, s[m.At:m.end], alone)
	}
	return len(l), api.OK
}

func TestExample(t *testing.T) {
	yields(t, `step a1 "x\"y" 20`, word(0, "step"), word(5, "a1"), text(8, `x"y`), number(15, 20))
}

// P11.1: Kind, At, N and Text of ordinary tokens, in their order.
func TestOrdinaryTexts(t *testing.T) {
	yields(t, `step a on "x" go done within 5 else fail end`,
		word(0, "step"), word(5, "a"), word(7, "on"), text(10, "x"), word(14, "go"), word(17, "done"), word(22, "within"), number(29, 5), word(31, "else"), word(36, "fail"), word(41, "end"))
	yields(t, "most 50 # visits\r\n\r\nstep log_in idem\n\tsend \"root\\n\" # a name\n\ton \"Pass\\\\w+: \" as p go pass_1\n\twithin 10 tries 2 else fail\nend\n",
		word(0, "most"), number(5, 50), word(20, "step"), word(25, "log_in"), word(32, "idem"), word(38, "send"), text(43, `root\n`),
		word(62, "on"), text(65, `Pass\\w+: `), word(78, "as"), word(81, "p"), word(83, "go"), word(86, "pass_1"),
		word(94, "within"), number(101, 10), word(104, "tries"), number(110, 2), word(112, "else"), word(117, "fail"), word(122, "end"))
	for _, s := range []string{
		"a", "0", `""`, "a b c", "1 2 3", `"a" "b"`,
		"send \"$user\" # who\nwithin 100 tries 5",
		"\n\n  a\n  b\n",
		"most 9999\n",
		`on "(a|b)*[^\"\\]\d+" as v1 go step_2`,
		"a ? b", "a A", "a 10000", "a 01", `a "b`, "a \"b\n\"", "step_", "_step", "x-y", "a,b", "a.b", "(a)", "'a'", "a=1", "-1", "1.5", "\x00", "\xff",
	} {
		agrees(t, s)
	}
}

func TestNoTokens(t *testing.T) {
	for _, s := range [][]byte{nil, {}} {
		if l, i, e := lex.Cut(s); len(l) != 0 || i != 0 || e != api.OK {
			t.Fatalf("Cut of no text: %v, %d, error %d", l, i, e)
		}
	}
	for _, s := range []string{
		"\t", "\n", "\r", " ", "\t\n\r ", "\r\n\r\n", strings.Repeat(" ", 2000), strings.Repeat("\t\n\r ", 500),
		"#", "##", "#\n", "# only", "# only\n", "#a\n#b", "#\n#\n#\n", " # a\n\t# b \n", "#\r", "#\r\n", "# \"a", "# 01 ?\\ \x00\x1f\x7f\xff", "#" + strings.Repeat("A", 1999), strings.Repeat("#", 2000), strings.Repeat("#\n", 1000),
	} {
		yields(t, s)
	}
}

func TestComments(t *testing.T) {
	yields(t, "# no\na", word(5, "a"))
	yields(t, "#\na", word(2, "a"))
	yields(t, "#\n\n#\na", word(5, "a"))
	yields(t, "a# no", word(0, "a"))
	yields(t, "a#", word(0, "a"))
	yields(t, "a#\n", word(0, "a"))
	yields(t, "a#b\nc", word(0, "a"), word(4, "c"))
	yields(t, "12#3\n4", number(0, 12), number(5, 4))
	yields(t, `"a"#"`+"\n\"b\"", text(0, "a"), text(6, "b"))
	yields(t, "a #b c 1 \"d\n e", word(0, "a"), word(13, "e"))
	yields(t, "a # \" # \\\" \n b", word(0, "a"), word(13, "b"))
	yields(t, "a # 01 99999 A ? \x00\t\r\x1f\xff\nb", word(0, "a"), word(23, "b"))
	// No other byte ends a comment.
	for i := range 256 {
		if i != 10 {
			yields(t, "a#"+string([]byte{byte(i)})+"b\nc", word(0, "a"), word(5, "c"))
		}
	}
	yields(t, "#\r? a\nb", word(6, "b"))
	// In a Text there is none.
	yields(t, `"#"`, text(0, "#"))
	yields(t, `"a # b" c`, text(0, "a # b"), word(8, "c"))
	yields(t, `"\#"#"`, text(0, `\#`))
	fails(t, `"#`, 2, api.ErrForm)
	fails(t, "\"#\n\"", 2, api.ErrForm)
	// What stands behind one is no longer in it.
	fails(t, "#\n?", 2, api.ErrForm)
	fails(t, "a#?\n?", 4, api.ErrForm)
}

func TestNothingBetween(t *testing.T) {
	yields(t, "12ab", number(0, 12), word(2, "ab"))
	yields(t, "0a", number(0, 0), word(1, "a"))
	yields(t, "0a0", number(0, 0), word(1, "a0"))
	yields(t, "1234abcd5", number(0, 1234), word(4, "abcd5"))
	yields(t, `ab"c"`, word(0, "ab"), text(2, "c"))
	yields(t, `"c"ab`, text(0, "c"), word(3, "ab"))
	yields(t, `12"c"`, number(0, 12), text(2, "c"))
	yields(t, `"c"12`, text(0, "c"), number(3, 12))
	yields(t, `"a""b"`, text(0, "a"), text(3, "b"))
	yields(t, `""""`, text(0, ""), text(2, ""))
	yields(t, `12ab""`, number(0, 12), word(2, "ab"), text(4, ""))
	yields(t, `""12ab""0`, text(0, ""), number(2, 12), word(4, "ab"), text(6, ""), number(8, 0))
	yields(t, "a\tb\nc\rd e", word(0, "a"), word(2, "b"), word(4, "c"), word(6, "d"), word(8, "e"))
	yields(t, "1\t2\n3\r4 5", number(0, 1), number(2, 2), number(4, 3), number(6, 4), number(8, 5))
	fails(t, `""" `, 4, api.ErrForm)
	fails(t, "12_", 2, api.ErrForm)
	fails(t, "12A", 2, api.ErrForm)
	fails(t, "aA", 1, api.ErrForm)
	fails(t, `""_`, 2, api.ErrForm)
	fails(t, `a\"`, 1, api.ErrForm)
}

func TestWords(t *testing.T) {
	for _, s := range []string{"a", "z", "ab", "a0", "z9", "a_", "a__", "a_0", "a0_z", "abcdefghijklmnopqrst", "uvwxyz", "a0123456789", "a" + strings.Repeat("_", 19), "z" + strings.Repeat("9", 19), "a" + strings.Repeat("0", 19)} {
		yields(t, s, word(0, s))
		yields(t, " "+s+"#", word(1, s))
		yields(t, `7`+s+`""`, number(0, 7), word(1, s), text(1+len(s), ""))
	}
	for _, s := range []string{"abcdefghijklmnopqrstu", "a" + strings.Repeat("_", 20), "z" + strings.Repeat("9", 20), strings.Repeat("a", 22), strings.Repeat("a", 40), strings.Repeat("a", 2000)} {
		fails(t, s, 0, api.ErrForm)
		if len(s) < 1000 {
			fails(t, "a "+s+" b", 2, api.ErrForm)
			fails(t, "123"+s+"?", 3, api.ErrForm)
			fails(t, "#\n\"\""+s+`"`, 4, api.ErrForm)
		}
	}
	fails(t, "_", 0, api.ErrForm)
	fails(t, "_a", 0, api.ErrForm)
	fails(t, "a _a", 2, api.ErrForm)
	yields(t, "9a", number(0, 9), word(1, "a"))
	fails(t, "9_a", 1, api.ErrForm)
	// The first 20 bytes are not one token, and the others another one.
	fails(t, strings.Repeat("a", 20)+"1", 0, api.ErrForm)
	yields(t, strings.Repeat("a", 20)+" 1", word(0, strings.Repeat("a", 20)), number(21, 1))
}

func TestNumbers(t *testing.T) {
	for n := range 10000 {
		s := strconv.Itoa(n)
		yields(t, s, number(0, n))
		yields(t, " "+s+"a", number(1, n), word(1+len(s), "a"))
	}
	for _, s := range []string{"10000", "99999", "12345", "65536", "100000", "4294967296", "4294967297", "18446744073709551616", "18446744073709551617", strings.Repeat("9", 100), "1" + strings.Repeat("0", 1000), strings.Repeat("7", 1990),
		"00", "01", "09", "000", "001", "0000", "0001", "0123", "00000", "00001", "01234", strings.Repeat("0", 1990)} {
		fails(t, s, 0, api.ErrForm)
		fails(t, "a "+s+" b", 2, api.ErrForm)
		fails(t, `""`+s+"?", 2, api.ErrForm)
	}
	yields(t, "0 0", number(0, 0), number(2, 0))
	yields(t, "1 0", number(0, 1), number(2, 0))
	yields(t, "0 1", number(0, 0), number(2, 1))
	yields(t, "10 100 1000", number(0, 10), number(3, 100), number(7, 1000))
	fails(t, "0 01", 2, api.ErrForm)
	fails(t, "5 00", 2, api.ErrForm)
}

func TestTexts(t *testing.T) {
	for s, want := range map[string]string{
		``:                                 ``,
		`a`:                                `a`,
		` `:                                ` `,
		`a b 1 # _ A?`:                     `a b 1 # _ A?`,
		`\"`:                               `"`,
		`\"\"`:                             `""`,
		`a\"b`:                             `a"b`,
		`\\`:                               `\\`,
		`\\\\`:                             `\\\\`,
		`\\\"`:                             `\\"`,
		`\\a`:                              `\\a`,
		`\a`:                               `\a`,
		`\n`:                               `\n`,
		`\ `:                               `\ `,
		`\#`:                               `\#`,
		`a\d+\.\$b`:                        `a\d+\.\$b`,
		"\x7f":                             "\x7f",
		"\x80\xff":                         "\x80\xff",
		"\\\x7f":                           "\\\x7f",
		"\\\xff":                           "\\\xff",
		"é":                                "é",
		"\\é":                              "\\é",
		strings.Repeat("a", 1998):          strings.Repeat("a", 1998),
		strings.Repeat(`\"`, 999):          strings.Repeat(`"`, 999),
		strings.Repeat(`\\`, 999):          strings.Repeat(`\\`, 999),
		strings.Repeat("\xff", 300) + `\a`: strings.Repeat("\xff", 300) + `\a`,
	} {
		yields(t, `"`+s+`"`, text(0, want))
		if len(s) < 1000 {
			yields(t, `a"`+s+`"b "`+s+`"`, word(0, "a"), text(1, want), word(3+len(s), "b"), text(5+len(s), want))
		}
	}
}

func TestTextsWithoutEnd(t *testing.T) {
	for _, s := range []string{
		`"`, `"a`, `"a b`, `"ab 12 #`, `"\`, `"a\`, `"\"`, `"a\"`, `"\\`, `"\\\`, `"\\\"`, `"\"\"`, `"\a`, `"""`, `"a"b"`, `"a" "`, `a"`, `1"`, `#` + "\n" + `"`, "\"\x7f", "\"\xff", `"` + strings.Repeat("a", 1999), `"` + strings.Repeat(`\"`, 999),
	} {
		fails(t, s, len(s), api.ErrForm)
	}
}

func TestEveryByteInText(t *testing.T) {
	for i := range 256 {
		c := byte(i)
		s := string([]byte{c})
		switch {
		case c < 32:
			fails(t, `"`+s, 1, api.ErrForm)
			fails(t, `"`+s+`"`, 1, api.ErrForm)
			fails(t, `a "bc`+s+`d"`, 5, api.ErrForm)
			fails(t, `"\`+s, 2, api.ErrForm)
			fails(t, `"\`+s+`"`, 2, api.ErrForm)
			fails(t, `a "b\\\`+s+`d" ?`, 7, api.ErrForm)
		case c == '"':
			yields(t, `"\""`, text(0, `"`))
			fails(t, `"""`, 3, api.ErrForm)
		case c == '\\':
			yields(t, `"\\"`, text(0, `\\`))
			fails(t, `"\"`, 3, api.ErrForm)
		default:
			yields(t, `"`+s+`"`, text(0, s))
			yields(t, `"a`+s+s+`b"`, text(0, "a"+s+s+"b"))
			yields(t, `"\`+s+`"`, text(0, `\`+s))
			yields(t, `"\`+s+`\"`+s+`"`, text(0, `\`+s+`"`+s))
		}
	}
}

// Also the bytes beside a and z, 0 and 9, A and _.
func TestEveryByteAroundTokens(t *testing.T) {
	for i := range 256 {
		c := byte(i)
		s := string([]byte{c})
		isLetter, isDigit := strings.Contains(letters, s), strings.Contains(digits, s)
		switch {
		case strings.Contains(betweenThem, s):
			yields(t, s)
			yields(t, s+"a"+s+s+"1"+s, word(1, "a"), number(4, 1))
		case c == '#':
			yields(t, s)
			yields(t, "a"+s+"1", word(0, "a"))
		case c == '"':
			fails(t, s, 1, api.ErrForm)
			fails(t, "a"+s, 2, api.ErrForm)
			fails(t, "1"+s, 2, api.ErrForm)
		case isLetter:
			yields(t, s, word(0, s))
			yields(t, "a"+s+"b", word(0, "a"+s+"b"))
			yields(t, "1"+s+"2", number(0, 1), word(1, s+"2"))
		case isDigit:
			yields(t, s, number(0, i-'0'))
			yields(t, "a"+s+"b", word(0, "a"+s+"b"))
			yields(t, "1"+s+"2", number(0, 102+10*(i-'0')))
		default:
			fails(t, s, 0, api.ErrForm)
			fails(t, " "+s, 1, api.ErrForm)
			fails(t, "1"+s+"2", 1, api.ErrForm)
			fails(t, `""`+s, 2, api.ErrForm)
			fails(t, "#\n"+s, 2, api.ErrForm)
			if c == '_' {
				yields(t, "a_b", word(0, "a_b"))
			} else {
				fails(t, "a"+s+"b", 1, api.ErrForm)
			}
		}
	}
}

// P11.1: the first of several errors counts.
func TestFirstError(t *testing.T) {
	long, high := strings.Repeat("a", 21), "12345"
	errors := []struct {
		s  string
		at int // from the begin of s on
	}{
		{"?", 0}, {"A", 0}, {"_", 0}, {"\\", 0}, {"\x00", 0}, {"\x7f", 0}, {"\xff", 0},
		{long, 0}, {high, 0}, {"01", 0}, {"00", 0},
		{"\"\n", 1}, {"\"ab\x1f", 3}, {"\"\\\t", 2}, {"\"" + long + "\x00", 22},
	}
	for _, first := range errors {
		for _, second := range errors {
			for _, before := range []string{"", " ", "a ", "12 ", `"x y"`, "# ?\n", "a 0 \"\\\"\" #\"\n"} {
				for _, between := range []string{" ", "\n", " a 1 ", "\n#\n"} {
					fails(t, before+first.s+between+second.s, len(before)+first.at, api.ErrForm)
				}
			}
		}
		// What comes first is a comment, or a Text that has no end.
		fails(t, "a#"+strings.ReplaceAll(first.s, "\n", "?")+"\n?", 3+len(first.s), api.ErrForm)
		if !strings.Contains(first.s, "\"") && first.s >= " " {
			fails(t, `"`+first.s, 1+len(first.s), api.ErrForm)
		}
	}
	// No tokens, however many stand ahead.
	fails(t, strings.Repeat("a 1 ", 499)+"?", 1996, api.ErrForm)
}

func TestLength(t *testing.T) {
	for size, want := range map[int]api.Errno{1999: api.OK, 2000: api.OK, 2001: api.ErrFull, 2002: api.ErrFull, 4000: api.ErrFull, 1 << 20: api.ErrFull} {
		for _, unit := range []string{"a ", "1\t", `""`, "#", "\n", "?", "\x00", "\"\\", "a", "9", "A ", "\xff"} {
			s := strings.Repeat(unit, size)[:size]
			if want == api.ErrFull {
				fails(t, s, 0, api.ErrFull)
			} else {
				agrees(t, s)
			}
		}
	}
	// An error at the end, or ahead of bytes that are too many.
	for _, size := range []int{1998, 1999, 2000} {
		fails(t, strings.Repeat(" ", size-1)+"?", size-1, api.ErrForm)
		fails(t, strings.Repeat(" ", size-1)+`"`, size, api.ErrForm)
		fails(t, strings.Repeat(" ", size-2)+"01", size-2, api.ErrForm)
		yields(t, strings.Repeat(" ", size-1)+"a", word(size-1, "a"))
		yields(t, strings.Repeat(" ", size-1)+"7", number(size-1, 7))
		yields(t, strings.Repeat(" ", size-2)+`""`, text(size-2, ""))
	}
	for _, s := range []string{"?", "01", "\"\n", "a A", "# only", "a"} {
		fails(t, s+strings.Repeat(" ", 2001-len(s)), 0, api.ErrFull)
	}
	fails(t, strings.Repeat(" ", 2000)+"?", 0, api.ErrFull)
	fails(t, strings.Repeat(" ", 2000)+"a", 0, api.ErrFull)
}

// everyText calls check with s and up to size more of these bytes behind it.
func everyText(s, of string, size int, check func(string)) {
	check(s)
	if size == 0 {
		return
	}
	for i := range len(of) {
		everyText(s+of[i:i+1], of, size-1, check)
	}
}

func everyByte() string {
	b := make([]byte, 256)
	for i := range b {
		b[i] = byte(i)
	}
	return string(b)
}

func TestShortTextsAgainstWords(t *testing.T) {
	seen := map[api.Errno]int{}
	check := func(s string) {
		_, e := agrees(t, s)
		seen[e]++
	}
	everyText("", everyByte(), 2, check)
	everyText("", "a0\"\\# \n", 6, check)
	everyText("", "az09_A\"\\#\x1f\t\xff ", 4, check)
	for _, s := range []string{"\"", "\"\\", "\"a\\\"", "#", "a#", "\"\"", "ab_", "12", "999", "0", "1\"", strings.Repeat("a", 19), strings.Repeat("b", 20)} {
		everyText(s, everyByte(), 1, check)
		everyText(s, "a1_\"\\\n", 4, check)
	}
	if seen[api.OK] < 10000 || seen[api.ErrForm] < 10000 {
		t.Fatalf("too few of a kind: %v", seen)
	}
}

// gap returns what may stand between tokens, or nothing.
func (n *numbers) gap() string {
	s := n.text(" \n\t\r", n.below(3))
	if n.below(6) == 0 {
		s += "#" + n.text("a1 \"#\\\r\x00\xff?", n.below(8)) + "\n"
	}
	return s
}

// token returns a token, or, rarely, something like one.
func (n *numbers) token() string {
	switch n.below(30) {
	case 0:
		return n.text("aA?_\\\x00\xff01\"", 1+n.below(3))
	case 1:
		return n.text(letters, 18+n.below(5))
	case 2:
		return n.text(digits, 1+n.below(6))
	}
	switch n.below(3) {
	case 0:
		return n.text(letters, 1) + n.text("az09_bc", n.below(20))
	case 1:
		return strconv.Itoa(n.below([]int{10, 100, 1000, 10000}[n.below(4)]))
	}
	s := `"`
	for range n.below(8) {
		s += []string{"a", "Z", " ", "#", "\xff", "\x7f", "7", `\"`, `\\`, `\n`, `\ `}[n.below(11)]
	}
	return s + `"`
}

func (n *numbers) runbook(size int) string {
	s := n.gap()
	for range size {
		s += n.token() + n.gap()
	}
	return s
}

func TestRunbooksAgainstWords(t *testing.T) {
	n := numbers(1)
	seen := map[api.Errno]int{}
	most := 0
	for range 20000 {
		size, e := agrees(t, n.runbook(n.below(20)))
		seen[e]++
		most = max(most, size)
	}
	for range 300 {
		_, e := agrees(t, n.runbook(200+n.below(100)))
		seen[e]++
	}
	if seen[api.OK] < 1000 || seen[api.ErrForm] < 1000 || seen[api.ErrFull] < 10 || most < 15 {
		t.Fatalf("too few of a kind: %v, up to %d tokens", seen, most)
	}
}

func TestLongRunbooksAgainstWords(t *testing.T) {
	n := numbers(2)
	read := 0
	for range 100 {
		s := ""
		for len(s) < 1960 {
			more := n.token() + n.gap()
			if _, _, e := lex.Cut([]byte(s + more)); e == api.OK {
				s += more
			}
		}
		size, e := agrees(t, s)
		if e != api.OK || size < 100 {
			t.Fatalf("Cut(%s): error %d, %d tokens", shown(s), e, size)
		}
		b := []byte(s)
		b[n.below(len(b))] = "\"\\#?A\n a0"[n.below(9)]
		if _, e := agrees(t, string(b)); e == api.OK {
			read++
		}
	}
	if read == 0 || read == 100 {
		t.Fatalf("%d of the changed ones were read", read)
	}
}

func TestAnyTextsAgainstWords(t *testing.T) {
	n := numbers(3)
	seen := map[api.Errno]int{}
	for range 60000 {
		_, e := agrees(t, n.text([]string{"ab01_\"\\ \n#", "a\" \\", "a0 ", "0123456789 a", everyByte(), "a1\"\n \t\r#\\_A\x1f\x7f\xff"}[n.below(6)], n.below(30)))
		seen[e]++
	}
	for range 200 {
		agrees(t, n.text("ab \"\"\\\n#01", 1900+n.below(110)))
		agrees(t, n.text("a \n", 1990+n.below(20)))
	}
	if seen[api.OK] < 1000 || seen[api.ErrForm] < 1000 {
		t.Fatalf("too few of a kind: %v", seen)
	}
}

// end returns where the token at its place in s ends, by its bytes.
func end(s string, token lex.Token) int {
	at := token.At
	switch token.Kind {
	case lex.Word:
		return at + len(token.Text)
	case lex.Number:
		return at + len(strconv.Itoa(token.N))
	}
	// The ends of a Text, and a \ that no longer stands ahead of each " in it.
	return at + 2 + len(token.Text) + bytes.Count(token.Text, []byte{'"'})
}

// P11.2: the tokens rise by At and lie within the text, and each alone is split into itself.
func TestEachTokenAlone(t *testing.T) {
	n := numbers(4)
	count := 0
	for range 20000 {
		s := n.runbook(n.below(12))
		l, _, e := lex.Cut([]byte(s))
		if e != api.OK {
			continue
		}
		last := 0
		for _, token := range l {
			if token.At < last || end(s, token) <= token.At || end(s, token) > len(s) {
				t.Fatalf("Cut(%q): %v: %v begins ahead of %d, or ends at %d", s, l, token, last, end(s, token))
			}
			last = end(s, token)
			alone := token
			alone.At = 0
			yields(t, s[token.At:last], alone)
			count++
		}
	}
	if count < 10000 {
		t.Fatalf("only %d tokens", count)
	}
}

var some = []string{"", "a", "12", `""`, `step a1 "x\"y" 20`, "ab 1 \"cd\" ef # no\n\"g\\\\h\" 0", "a#b", "a ?", "a 01", `a "b`, "a \"b\n", strings.Repeat("ab ", 666), strings.Repeat("a", 2001)}

func TestArgumentIsLeftAlone(t *testing.T) {
	for _, s := range some {
		// With more capacity than length, so that an append to the argument would be seen.
		whole := append([]byte(s), "\x01\x02\x03\x04"...)
		before := bytes.Clone(whole)
		l, i, e := lex.Cut(whole[:len(s)])
		if !bytes.Equal(whole, before) {
			t.Fatalf("Cut(%s) changed its argument to %s", shown(string(before)), shown(string(whole)))
		}
		// If the tokens or a later call used the argument's memory, they would change with it.
		clear(whole)
		m, j, f := lex.Cut([]byte(s))
		if !same(l, m) || i != j || e != f {
			t.Fatalf("Cut(%s): %v, %d, error %d; then %v, %d, error %d", shown(s), l, i, e, m, j, f)
		}
	}
}

func TestTokensAreNewMemory(t *testing.T) {
	for _, s := range some {
		b := []byte(s)
		l, _, _ := lex.Cut(b)
		want, _, _ := lex.Cut([]byte(s))
		// Whoever appends to the bytes of a token, or writes to them, must change no other one, in the same answer or in another one, nor what Cut was given.
		for k := range l {
			_ = append(l[k].Text, "\x01\x02\x03\x04\x05\x06\x07\x08"...)
			clear(l[k].Text)
			if !same(l[k+1:], want[k+1:]) {
				t.Fatalf("Cut(%s): the token %d shares memory with one behind it", shown(s), k)
			}
		}
		_ = append(l, word(0, "z"))
		clear(l)
		if string(b) != s {
			t.Fatalf("Cut(%s): the tokens share memory with the argument", shown(s))
		}
		if again, _, _ := lex.Cut(b); !same(again, want) {
			t.Fatalf("Cut(%s): %v, and later %v", shown(s), want, again)
		}
	}
}

func TestEarlierCallsDoNotMatter(t *testing.T) {
	n := numbers(5)
	texts := slices.Clone(some)
	for range 40 {
		texts = append(texts, n.runbook(n.below(10)))
	}
	for _, s := range texts {
		want, at, e := lex.Cut([]byte(s))
		for _, other := range texts {
			lex.Cut([]byte(other))
			if l, i, f := lex.Cut([]byte(s)); !same(l, want) || i != at || f != e {
				t.Fatalf("Cut(%s): %v, %d, error %d; behind Cut(%s) %v, %d, error %d", shown(s), want, at, e, shown(other), l, i, f)
			}
		}
	}
}

// Calls that go on at the same time do not touch each other.
func TestCallsAtTheSameTime(t *testing.T) {
	results := make(chan string)
	for i := range 8 {
		go func() {
			told := ""
			for range 200 {
				l, at, e := lex.Cut([]byte(strings.Repeat("a1 ", i) + strconv.Itoa(i) + `"\""`))
				told = fmt.Sprint(len(l), at, e, l[i].N, string(l[i+1].Text))
			}
			results <- told
		}()
	}
	var got []string
	for range 8 {
		got = append(got, <-results)
	}
	slices.Sort(got)
	for i, told := range got {
		if want := fmt.Sprint(i+2, 0, api.OK, i, `"`); told != want {
			t.Errorf("Cut: %q, not %q", told, want)
		}
	}
}
