package regex_test

import (
	"slices"
	"strings"

	"davit/api"
	"davit/regex"
)

// words parses by the chapter's words alone: a text is a pattern if it can be split as the words say, and all splits are tried. It keeps the ops of each text that it has tried, nil for one that is no pattern, or no branch.
type words struct {
	patterns map[string][]regex.Op
	branches map[string][]regex.Op
}

func newWords() *words {
	return &words{patterns: map[string][]regex.Op{}, branches: map[string][]regex.Op{}}
}

func op(kind int) regex.Op {
	return regex.Op{Kind: kind}
}

// pattern returns the ops of s, nil if s is no pattern.
func (w *words) pattern(s string) []regex.Op {
	if _, ok := w.patterns[s]; !ok {
		w.patterns[s] = w.splitPattern(s)
	}
	return w.patterns[s]
}

func (w *words) splitPattern(s string) []regex.Op {
	for i := range len(s) {
		if s[i] != '|' {
			continue
		}
		if last := w.branch(s[i+1:]); last != nil {
			if before := w.pattern(s[:i]); before != nil {
				return slices.Concat(before, last, []regex.Op{op(regex.Alt)})
			}
		}
	}
	return w.branch(s)
}

func (w *words) branch(s string) []regex.Op {
	if _, ok := w.branches[s]; !ok {
		w.branches[s] = w.splitBranch(s)
	}
	return w.branches[s]
}

func (w *words) splitBranch(s string) []regex.Op {
	if s == "" {
		return []regex.Op{op(regex.None)}
	}
	for i := len(s) - 1; i > 0; i-- {
		if last := w.piece(s[i:]); last != nil {
			if before := w.branch(s[:i]); before != nil {
				return slices.Concat(before, last, []regex.Op{op(regex.Cat)})
			}
		}
	}
	return w.piece(s)
}

func (w *words) piece(s string) []regex.Op {
	if atom := w.atom(s); atom != nil {
		return atom
	}
	last := len(s) - 1
	if kind := strings.IndexByte("*+?", s[last]); kind >= 0 {
		if atom := w.atom(s[:last]); atom != nil {
			return slices.Concat(atom, []regex.Op{op([]int{regex.Star, regex.Plus, regex.Opt}[kind])})
		}
	}
	return nil
}

func (w *words) atom(s string) []regex.Op {
	switch {
	case s == ".":
		return []regex.Op{setNot(at(10))}
	case len(s) == 1 && !strings.Contains(`()[]*+?|\`, s):
		return []regex.Op{set(at(s[0]))}
	case len(s) == 2 && s[0] == '\\':
		return escapedAtom(s[1])
	case len(s) >= 2 && s[0] == '(' && s[len(s)-1] == ')':
		return w.pattern(s[1 : len(s)-1])
	case len(s) >= 2 && s[0] == '[' && s[len(s)-1] == ']':
		return setAtom(s[1 : len(s)-1])
	}
	return nil
}

func escapedAtom(c byte) []regex.Op {
	switch c {
	case 'd':
		return []regex.Op{set(to('0', '9'))}
	case 'w':
		return []regex.Op{set(to('0', '9'), to('A', 'Z'), at('_'), to('a', 'z'))}
	case 's':
		return []regex.Op{set(to(9, 13), at(32))}
	}
	if b, ok := oneByte(c); ok {
		return []regex.Op{set(at(b))}
	}
	return nil
}

const lettersAndDigits = "0123456789ABCDEFGHIJKLMNOPQRSTUVWXYZabcdefghijklmnopqrstuvwxyz"

// oneByte returns the byte for which \c stands; false for d, w and s, and for what may not be escaped.
func oneByte(c byte) (byte, bool) {
	if i := strings.IndexByte("ntr", c); i >= 0 {
		return []byte{10, 9, 13}[i], true
	}
	return c, strings.IndexByte(lettersAndDigits, c) < 0
}

// setAtom returns the op of a set, whose text lies between [ and ].
func setAtom(s string) []regex.Op {
	rest, not := strings.CutPrefix(s, "^")
	spans := items(rest)
	if spans == nil {
		return nil
	}
	return []regex.Op{{Kind: regex.Set, Not: not, Spans: spans}}
}

// items returns the spans of one or more items, nil if s is not that.
func items(s string) []regex.Span {
	for i := 1; i <= len(s); i++ {
		first, ok := item(s[:i])
		if !ok {
			continue
		}
		if i == len(s) {
			return []regex.Span{first}
		}
		if others := items(s[i:]); others != nil {
			return append([]regex.Span{first}, others...)
		}
	}
	return nil
}

func item(s string) (regex.Span, bool) {
	if b, ok := setByte(s); ok {
		return at(b), true
	}
	for i := range len(s) {
		if s[i] != '-' {
			continue
		}
		from, ok := setByte(s[:i])
		upTo, good := setByte(s[i+1:])
		if ok && good && from <= upTo {
			return to(from, upTo), true
		}
	}
	return regex.Span{}, false
}

// setByte returns the byte for which s stands in a set.
func setByte(s string) (byte, bool) {
	switch {
	case len(s) == 1:
		return s[0], !strings.Contains(`]\-^`, s)
	case len(s) == 2 && s[0] == '\\':
		return oneByte(s[1])
	}
	return 0, false
}

// beginning reports whether s is the beginning of a pattern, and how many brackets of its atoms are open at the end of s. It tries whether s is a pattern with something behind it: the greatest byte ends what is unfinished in an atom, because it may be escaped, may be an item, and is not less than where a range begins; then the set may lack its ], and brackets their ).
func (w *words) beginning(s string) (int, bool) {
	for open := range strings.Count(s, "(") + 1 {
		for _, end := range []string{"", "]", "\xff", "\xff]"} {
			if w.pattern(s+end+strings.Repeat(")", open)) != nil {
				return open, true
			}
		}
	}
	return 0, false
}

// slowParse is Parse by the words of the promise.
func slowParse(s string) ([]regex.Op, int, api.Errno) {
	if len(s) > 80 {
		return nil, 0, api.ErrFull
	}
	w := newWords()
	for i := range len(s) {
		open, ok := w.beginning(s[:i+1])
		if !ok {
			return nil, i, api.ErrForm
		}
		// Only at a ( of an atom there are more open brackets than before.
		if open > 8 {
			return nil, i, api.ErrDeep
		}
	}
	if ops := w.pattern(s); ops != nil {
		return ops, 0, api.OK
	}
	return nil, len(s), api.ErrForm
}

func at(c byte) regex.Span {
	return regex.Span{From: c, To: c}
}

func to(from, to byte) regex.Span {
	return regex.Span{From: from, To: to}
}

func set(spans ...regex.Span) regex.Op {
	return regex.Op{Kind: regex.Set, Spans: spans}
}

func setNot(spans ...regex.Span) regex.Op {
	return regex.Op{Kind: regex.Set, Not: true, Spans: spans}
}

func sameOp(a, b regex.Op) bool {
	return a.Kind == b.Kind && a.Not == b.Not && slices.Equal(a.Spans, b.Spans)
}

func sameOps(a, b []regex.Op) bool {
	return slices.EqualFunc(a, b, sameOp)
}

// leftOver executes the ops with a stack and returns how many values there are in the end; false if an op does not find what it pops, or there is no such op.
func leftOver(l []regex.Op) (int, bool) {
	size := 0
	for _, o := range l {
		pops := map[int]int{regex.Set: 0, regex.None: 0, regex.Cat: 2, regex.Alt: 2, regex.Star: 1, regex.Plus: 1, regex.Opt: 1}
		n, ok := pops[o.Kind]
		if !ok || n > size {
			return 0, false
		}
		size += 1 - n
	}
	return size, true
}
