package check_test

import (
	"bytes"
	"fmt"
	"reflect"
	"slices"
	"strings"
	"testing"

	"davit/api"
	"davit/check"
	"davit/runbook"
)

// some returns books that are compiled, and one for each error.
func some() []runbook.Book {
	l := []runbook.Book{
		ordinary(),
		clean(30, 6, 1),
		chain(3),
		{},
		changed(func(b *runbook.Book) { b.Most = 0 }),
		chain(33),
		withStep(1, func(s *runbook.Step) { s.Name = "a" }),
		withStep(2, func(s *runbook.Step) { s.Tag = api.Idem }),
		withStep(2, func(s *runbook.Step) { s.Send = []byte("$") }),
		withStep(2, func(s *runbook.Step) { s.Send = []byte("x$v") }),
		withStep(2, func(s *runbook.Step) { s.Send = []byte("$nope") }),
		withStep(0, func(s *runbook.Step) { s.Send = []byte{} }),
		withArm(2, 1, func(a *runbook.Arm) { a.Pattern = []byte("(") }),
		withArm(2, 1, func(a *runbook.Arm) { a.Pattern = []byte("((((((((((") }),
		withArm(2, 1, func(a *runbook.Arm) { a.Pattern = []byte(strings.Repeat("x", 81)) }),
		withArm(0, 0, func(a *runbook.Arm) { a.Pattern = []byte{} }),
		withArm(2, 1, func(a *runbook.Arm) { a.Go = "nope" }),
		withVariables("a", "b", "c", "d", "e", "f", "g", "h", "i"),
		withVariables("h", "g", "f", "e", "d", "c", "b", "a"),
	}
	n := numbers(5)
	for range 20 {
		l = append(l, n.book(100))
	}
	return l
}

// roomy returns a copy of a book in new memory, in which other things stand behind the end of each list, so that an append to it would be seen.
func roomy(b runbook.Book) runbook.Book {
	more := func(b []byte) []byte { return append(bytes.Clone(b), "\x01\x02\x03\x04"...)[:len(b)] }
	arm := func(a runbook.Arm) runbook.Arm {
		a.Pattern = more(a.Pattern)
		return a
	}
	step := func(s runbook.Step) runbook.Step {
		s.Send = more(s.Send)
		var arms []runbook.Arm
		for _, a := range s.Arms {
			arms = append(arms, arm(a))
		}
		s.Arms = append(arms, runbook.Arm{At: 1, As: "one"}, runbook.Arm{At: 2, As: "two"})[:len(s.Arms)]
		return s
	}
	var steps []runbook.Step
	for _, s := range b.Steps {
		steps = append(steps, step(s))
	}
	b.Steps = append(steps, runbook.Step{At: 1, Name: "one"}, runbook.Step{At: 2, Name: "two"})[:len(b.Steps)]
	return b
}

// whole returns a copy of all memory of a book that roomy returned, also of what is behind the ends of its lists.
func whole(b runbook.Book) []any {
	steps := b.Steps[:cap(b.Steps)]
	l := []any{b.Most, slices.Clone(steps)}
	for i, s := range steps {
		// The lists as they are now in the memory of the copy above would change with the book.
		l[1].([]runbook.Step)[i].Send, l[1].([]runbook.Step)[i].Arms = nil, nil
		l = append(l, len(s.Send), bytes.Clone(s.Send[:cap(s.Send)]))
		arms := slices.Clone(s.Arms[:cap(s.Arms)])
		l = append(l, len(s.Arms), arms)
		for j, a := range arms {
			arms[j].Pattern = nil
			l = append(l, len(a.Pattern), bytes.Clone(a.Pattern[:cap(a.Pattern)]))
		}
	}
	return l
}

// spoil changes all memory of a book.
func spoil(b runbook.Book) {
	steps := b.Steps[:cap(b.Steps)]
	for _, s := range steps {
		clear(s.Send[:cap(s.Send)])
		for _, a := range s.Arms[:cap(s.Arms)] {
			clear(a.Pattern[:cap(a.Pattern)])
		}
		clear(s.Arms[:cap(s.Arms)])
	}
	clear(steps)
}

// copied returns a copy of a compiled book, in new memory.
func copied(c api.Book) api.Book {
	c.Vars, c.Steps = slices.Clone(c.Vars), slices.Clone(c.Steps)
	for i := range c.Steps {
		s := &c.Steps[i]
		s.Send, s.Arms = bytes.Clone(s.Send), slices.Clone(s.Arms)
		for j := range s.Arms {
			s.Arms[j].Pattern = bytes.Clone(s.Arms[j].Pattern)
		}
	}
	return c
}

func TestArgumentIsLeftAlone(t *testing.T) {
	for _, b := range some() {
		given := roomy(b)
		before := whole(given)
		c, place, e := check.Compile(given)
		if !reflect.DeepEqual(whole(given), before) {
			t.Fatalf("Compile(%s) changed its argument", shown(b))
		}
		// If the answer or a later call used the argument's memory, they would change with it.
		want := copied(c)
		spoil(given)
		if !same(c, want) {
			t.Fatalf("Compile(%s): %s changed with the argument to %s", shown(b), told(want), told(c))
		}
		if again, at, f := check.Compile(b); !same(again, want) || at != place || f != e {
			t.Fatalf("Compile(%s): %s, %d, error %d; and later %s, %d, error %d", shown(b), told(want), place, e, told(again), at, f)
		}
	}
}

// overwrite changes bytes, and what an append to them would reach.
func overwrite(b []byte) {
	_ = append(b, "\x01\x02\x03\x04\x05\x06\x07\x08"...)
	clear(b)
}

// isAlone checks that no list of a compiled book shares memory with another one of it: each is changed, and put back as another list, while the others stay.
func isAlone(t *testing.T, c api.Book) {
	t.Helper()
	want := copied(c)
	check := func(what string) {
		t.Helper()
		if !same(c, want) {
			t.Fatalf("%s shares memory in %s", what, told(want))
		}
	}
	for i := range c.Steps {
		s, right := &c.Steps[i], copied(want).Steps[i]
		overwrite(s.Send)
		s.Send = right.Send
		check(fmt.Sprintf("the line of the step %d", i))
		for j := range s.Arms {
			overwrite(s.Arms[j].Pattern)
			s.Arms[j].Pattern = right.Arms[j].Pattern
			check(fmt.Sprintf("the pattern of the arm %d of the step %d", j, i))
		}
		_ = append(s.Arms, api.Arm{To: 77}, api.Arm{To: 78}, api.Arm{To: 79})
		clear(s.Arms)
		s.Arms = right.Arms
		check(fmt.Sprintf("the arms of the step %d", i))
	}
	_ = append(c.Vars, "?", "?", "?", "?")
	clear(c.Vars)
	c.Vars = want.Vars
	check("the variables")
	_ = append(c.Steps, api.Step{Name: "?"}, api.Step{Name: "?"})
	clear(c.Steps)
	c.Steps = want.Steps
	check("the steps")
}

func TestAnswersAreNewMemory(t *testing.T) {
	for _, b := range some() {
		given := roomy(b)
		before := whole(given)
		one, _, _ := check.Compile(given)
		other, place, e := check.Compile(given)
		want := copied(other)
		isAlone(t, one)
		if !reflect.DeepEqual(whole(given), before) {
			t.Fatalf("Compile(%s): the answer shares memory with the argument", shown(b))
		}
		if !same(other, want) {
			t.Fatalf("Compile(%s): two answers share memory", shown(b))
		}
		if again, at, f := check.Compile(given); !same(again, want) || at != place || f != e {
			t.Fatalf("Compile(%s): %s, and later %s", shown(b), told(want), told(again))
		}
	}
}

// Parts of the argument may be one piece of memory, those of the answer are not.
func TestArgumentThatSharesMemory(t *testing.T) {
	text := []byte("abcd")
	arms := []runbook.Arm{{Pattern: text, As: "v", Go: "a"}, {Pattern: text[:2], Go: "b"}, {Pattern: text[1:], As: "v", Go: "done"}, {Pattern: text[:0], Go: "a"}}
	b := named("a", "b", "c")
	for i := range b.Steps {
		b.Steps[i].Send, b.Steps[i].Arms = text[i:], arms[:4-i]
	}
	returns(t, b, 0, api.OK)
	c, _, _ := check.Compile(b)
	isAlone(t, c)
	if string(text) != "abcd" || arms[0].As != "v" || string(arms[2].Pattern) != "bcd" {
		t.Fatalf("the argument is now %s", shown(b))
	}
}

// The same memory with other things in it is another argument.
func TestMemoryThatIsUsedAgain(t *testing.T) {
	b := ordinary()
	first, _, _ := check.Compile(b)
	before := copied(first)
	for i := range 100 {
		name := fmt.Sprintf("x%d", i)
		b.Steps[0].Name, b.Steps[1].Else, b.Steps[0].Arms[0].As, b.Steps[1].Arms[1].As = name, name, name, name
		b.Steps[0].Send = []byte("$" + name)
		copy(b.Steps[1].Arms[0].Pattern, fmt.Sprintf("%03d", i))
		returns(t, b, 0, api.OK)
		b.Steps[1].Arms[0].Pattern[1] = ')'
		returns(t, b, 55, api.ErrForm)
		b.Steps[0].Send[1] = 'y'
		returns(t, b, 11, api.ErrName)
	}
	if !same(first, before) {
		t.Fatalf("%s has become %s", told(before), told(first))
	}
}

// A nil list and an empty one are equivalent.
func TestNilAndEmpty(t *testing.T) {
	for _, isNil := range []bool{false, true} {
		list := []byte{}
		arms := []runbook.Arm{}
		if isNil {
			list, arms = nil, nil
		}
		b := named("a", "b")
		b.Steps[0].Send, b.Steps[0].Arms = list, arms
		b.Steps[1].Send, b.Steps[1].Arms = list, []runbook.Arm{{Pattern: list, Go: "a"}}
		yields(t, b, api.Book{Most: 1, Steps: []api.Step{{Name: "a", Time: 1, Else: api.Done}, {Name: "b", Time: 1, Else: api.Done, Arms: []api.Arm{{Var: -1}}}}})
		b.Steps[0].Tag = api.Idem
		returns(t, b, 500, api.ErrArg)
		b.Steps[0].Sends = true
		returns(t, b, 0, api.OK)
	}
}

func TestEarlierCallsDoNotMatter(t *testing.T) {
	books := some()
	for _, b := range books {
		want, place, e := check.Compile(b)
		for _, other := range books {
			check.Compile(other)
			if c, at, f := check.Compile(b); !same(c, want) || at != place || f != e {
				t.Fatalf("Compile(%s): %s, %d, error %d; behind Compile(%s) %s, %d, error %d", shown(b), told(want), place, e, shown(other), told(c), at, f)
			}
		}
	}
}

// Calls that go on at the same time do not touch each other, also if they are given the same memory.
func TestCallsAtTheSameTime(t *testing.T) {
	shared := ordinary()
	results := make(chan string)
	for i := range 8 {
		go func() {
			told := ""
			for range 200 {
				c, at, e := check.Compile(shared)
				own, place, f := check.Compile(chain(27 + i))
				told = fmt.Sprint(i, c, at, e, len(own.Steps), place, f)
			}
			results <- told
		}()
	}
	var got []string
	for range 8 {
		got = append(got, <-results)
	}
	slices.Sort(got)
	want, _, _ := check.Compile(ordinary())
	for i, told := range got {
		size, place, e := 27+i, 0, api.OK
		if size > 30 {
			size, place, e = 0, 310, api.ErrFull
		}
		if expected := fmt.Sprint(i, want, 0, api.OK, size, place, e); told != expected {
			t.Errorf("the calls returned %q, not %q", told, expected)
		}
	}
}
