package check_test

import (
	"fmt"
	"strconv"
	"strings"
	"testing"

	"davit/api"
	"davit/runbook"
)

// numbers yields the same numbers in every test run.
type numbers uint64

func (n *numbers) below(most int) int {
	*n = *n*6364136223846793005 + 1442695040888963407
	return int(uint32(*n>>33)) % most
}

// one returns one of these.
func (n *numbers) one(of ...string) string {
	return of[n.below(len(of))]
}

// rarely reports true once in so many times.
func (n *numbers) rarely(times int) bool {
	return n.below(times) == 0
}

// number returns a number from least to most, or, rarely, any other one.
func (n *numbers) number(least, most, times int) int {
	if !n.rarely(times) {
		return least + n.below(most-least+1)
	}
	l := anyNumbers()
	return l[n.below(len(l))]
}

// bytes returns some bytes, size of them.
func (n *numbers) bytes(size int) string {
	b := make([]byte, size)
	for i := range b {
		b[i] = byte(n.below(256))
	}
	return string(b)
}

// target returns a word, mostly one of the targets in a book with so many steps.
func (n *numbers) target(steps, times int) string {
	if n.rarely(times) {
		return n.one("", "nope", "Done", "s", "s99", "v1", n.bytes(2))
	}
	if n.rarely(3) {
		return n.one("done", "fail", "doubt")
	}
	return fmt.Sprintf("s%d", n.below(steps))
}

func (n *numbers) line(times int) string {
	s := ""
	for range n.below(5) {
		s += n.one("show ", "$$", "$v0", "$v1", "$v0-$v1", "\xff", " ")
	}
	if n.rarely(times) {
		s += n.one("$", "$v9", "$V", "$nope", n.bytes(3))
	}
	return s
}

func (n *numbers) pattern(times int) string {
	s := ""
	for range n.below(5) {
		s += n.one("a", "ok|", ".*", `\d+`, "[^a-c]", "(x|y)?", " ")
	}
	if n.rarely(times) {
		s += n.one("(", ")", "**", "[", `\q`, n.bytes(3), strings.Repeat("x", 81), strings.Repeat("(", 9))
	}
	return s
}

// book returns a book in which most things are right, and one of so many is not, or fewer.
func (n *numbers) book(times int) runbook.Book {
	size := 1 + n.below(5)
	if n.rarely(20) {
		size = 28 + n.below(6)
	}
	b := runbook.Book{Most: n.number(1, 1000, times)}
	for i := range size {
		s := runbook.Step{At: 100 * i, Name: fmt.Sprintf("s%d", i), Tag: n.number(0, 2, times), Send: []byte(n.line(times)), Time: n.number(1, 100, times), Else: n.target(size, times)}
		if n.rarely(times) {
			s.Name = n.target(size, 5)
		}
		s.Sends = (s.Tag != 0) != n.rarely(times)
		if s.Tag != api.Once || n.rarely(times) {
			s.Try = n.number(0, 5, times)
		}
		arms := n.below(4)
		if n.rarely(20) {
			arms = 5 + n.below(3)
		}
		if i == 0 {
			arms = 2 + n.below(4)
		}
		for j := range arms {
			a := runbook.Arm{At: 100*i + 10*j, Pattern: []byte(n.pattern(2 * times)), Go: n.target(size, 2*times)}
			// The lines have the first two.
			switch {
			case i == 0 && j < 2:
				a.As = fmt.Sprintf("v%d", j)
			case n.rarely(2):
				a.As = fmt.Sprintf("v%d", n.below(8+n.below(2)))
			}
			s.Arms = append(s.Arms, a)
		}
		b.Steps = append(b.Steps, s)
	}
	return b
}

// disturb sets some of a book's parts to anything, also such as no text has.
func (n *numbers) disturb(b *runbook.Book) {
	for range n.below(4) {
		s := &b.Steps[n.below(len(b.Steps))]
		switch n.below(7) {
		case 0:
			s.At = n.number(-1000, 1000, 3)
		case 1:
			s.Name = n.bytes(n.below(2))
		case 2:
			s.Send = []byte(n.bytes(n.below(3)))
		case 3:
			s.Send = nil
		case 4:
			s.Else = n.one("", b.Steps[n.below(len(b.Steps))].Name)
		case 5:
			s.Arms = append(s.Arms, s.Arms...)
		case 6:
			*s = b.Steps[n.below(len(b.Steps))]
			s.Name += n.one("", "_")
		}
		if len(s.Arms) == 0 {
			continue
		}
		a := &s.Arms[n.below(len(s.Arms))]
		switch n.below(5) {
		case 0:
			a.At = n.number(-1000, 1000, 3)
		case 1:
			a.Pattern = []byte(n.bytes(n.below(3)))
		case 2:
			a.As = n.bytes(n.below(2))
		case 3:
			a.Go = n.one("", s.Name, b.Steps[0].Name)
		}
	}
}

// tell fails if there were too few books with each of these errors.
func tell(t *testing.T, seen map[api.Errno]int, least int, errors ...api.Errno) {
	t.Helper()
	for _, e := range errors {
		if seen[e] < least {
			t.Errorf("only %d books with the error %d: %v", seen[e], e, seen)
		}
	}
}

func TestBooksAgainstWords(t *testing.T) {
	n := numbers(1)
	seen := map[api.Errno]int{}
	for i := range 12000 {
		seen[agrees(t, n.book(20+20*(i%20)))]++
	}
	tell(t, seen, 1000, api.OK, api.ErrName)
	tell(t, seen, 100, api.ErrFull, api.ErrArg, api.ErrForm)
	tell(t, seen, 10, api.ErrTwice, api.ErrDeep)
}

func TestAnyBooksAgainstWords(t *testing.T) {
	n := numbers(2)
	seen := map[api.Errno]int{}
	for i := range 12000 {
		b := n.book(20 + 20*(i%20))
		n.disturb(&b)
		seen[agrees(t, b)]++
	}
	tell(t, seen, 1000, api.OK, api.ErrName)
	tell(t, seen, 100, api.ErrFull, api.ErrTwice, api.ErrArg, api.ErrForm)
}

func quoted(b []byte) string {
	return `"` + strings.ReplaceAll(string(b), `"`, `\"`) + `"`
}

// textOf returns the text of a book whose words and numbers are such as a text has.
func textOf(b runbook.Book) string {
	s := "most " + strconv.Itoa(b.Most)
	for _, p := range b.Steps {
		s += "\nstep " + p.Name + []string{"", " once", " idem"}[p.Tag]
		if p.Sends {
			s += " send " + quoted(p.Send)
		}
		for _, a := range p.Arms {
			s += " on " + quoted(a.Pattern)
			if a.As != "" {
				s += " as " + a.As
			}
			s += " go " + a.Go
		}
		s += " within " + strconv.Itoa(p.Time)
		if p.Try != 0 {
			s += " tries " + strconv.Itoa(p.Try)
		}
		s += " else " + p.Else + " end"
	}
	return s
}

// isWritable reports whether there may be a text of the book.
func isWritable(b runbook.Book) bool {
	fits := func(x, most int) bool { return x >= 0 && x <= most }
	ok := fits(b.Most, 9999)
	for _, s := range b.Steps {
		ok = ok && fits(s.Tag, 2) && fits(s.Time, 9999) && fits(s.Try, 9999)
	}
	return ok
}

// Books that are parsed from a text have their places from there.
func TestTextsAgainstWords(t *testing.T) {
	n := numbers(3)
	seen := map[api.Errno]int{}
	for i := range 12000 {
		written := n.book(20 + 20*(i%20))
		if !isWritable(written) {
			continue
		}
		b, _, e := runbook.Parse([]byte(textOf(written)))
		if e != api.OK {
			continue
		}
		seen[agrees(t, b)]++
	}
	tell(t, seen, 1000, api.OK, api.ErrName)
	tell(t, seen, 100, api.ErrFull, api.ErrArg, api.ErrForm)
	tell(t, seen, 10, api.ErrTwice, api.ErrDeep)
}

// everyList calls check with all lists of so many of these.
func everyList(l []string, of []string, size int, check func([]string)) {
	if size == 0 {
		check(l)
		return
	}
	for _, s := range of {
		everyList(append(l[:len(l):len(l)], s), of, size-1, check)
	}
}

// All books of one to three steps with these names, which lead to any of these words.
func TestNamesAndTargetsAgainstWords(t *testing.T) {
	seen := map[api.Errno]int{}
	for size := 1; size <= 3; size++ {
		everyList(nil, []string{"a", "b", "", "done", "fail"}[:min(5, 7-size)], 2*size, func(l []string) {
			b := named(l[:size]...)
			for i, word := range l[size:] {
				b.Steps[i].Else = word
				b.Steps[i].Arms = []runbook.Arm{{At: i, Go: l[size+(i+1)%size]}}
			}
			seen[agrees(t, b)]++
		})
	}
	tell(t, seen, 20, api.OK, api.ErrTwice, api.ErrName)
}

// All books of two steps with two arms each, which have any of these variables, and any of these lines.
func TestVariablesAndLinesAgainstWords(t *testing.T) {
	seen := map[api.Errno]int{}
	everyList(nil, []string{"", "v", "w", "vw"}, 6, func(l []string) {
		b := named("a", "b")
		for i := range b.Steps {
			b.Steps[i].Arms = []runbook.Arm{{As: l[2*i], Go: "a"}, {As: l[2*i+1], Go: "b"}}
			if l[4+i] != "" {
				b.Steps[i].Send = []byte("x$" + l[4+i])
			}
		}
		seen[agrees(t, b)]++
	})
	tell(t, seen, 1000, api.OK, api.ErrName)
}

// A book of zero values, and books in which everything is out of bounds.
func TestWildBooks(t *testing.T) {
	agrees(t, runbook.Book{Steps: make([]runbook.Step, 40)})
	agrees(t, runbook.Book{Most: 1, Steps: make([]runbook.Step, 40)})
	agrees(t, runbook.Book{Most: 1, Steps: []runbook.Step{{Arms: make([]runbook.Arm, 40)}}})
	n := numbers(4)
	for range 3000 {
		b := runbook.Book{Most: n.number(1, 9, 2)}
		for range n.below(4) {
			s := runbook.Step{At: n.number(0, 9, 2), Name: n.bytes(n.below(2)), Tag: n.number(0, 2, 4), Sends: n.rarely(2), Send: []byte(n.bytes(n.below(9))), Time: n.number(1, 9, 4), Try: n.number(0, 1, 4), Else: n.one("", "done", n.bytes(1))}
			for range n.below(9) {
				s.Arms = append(s.Arms, runbook.Arm{At: n.number(0, 9, 2), Pattern: []byte(n.bytes(n.below(9))), As: n.bytes(n.below(2)), Go: n.one("", "done", n.bytes(1))})
			}
			b.Steps = append(b.Steps, s)
		}
		agrees(t, b)
	}
}
