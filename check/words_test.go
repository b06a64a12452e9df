package check_test

import (
	"cmp"
	"slices"

	"davit/api"
	"davit/nfa"
	"davit/regex"
	"davit/runbook"
	"davit/vars"
)

// violation is a condition that is violated: where it stands in the order of all conditions of a book, its place and its error.
type violation struct {
	step, arm, rank int // -1 as the step and the arm of the book's conditions, and as the arm of a step's
	place           int
	e               api.Errno
}

func inOrder(v, w violation) int {
	return cmp.Or(cmp.Compare(v.step, w.step), cmp.Compare(v.arm, w.arm), cmp.Compare(v.rank, w.rank))
}

// slowVariables returns the variables of a book by the chapter's words alone.
func slowVariables(b runbook.Book) []string {
	var all []string
	for _, s := range b.Steps {
		for _, a := range s.Arms {
			all = append(all, a.As)
		}
	}
	var l []string
	for i, name := range all {
		if name != "" && slices.Index(all, name) == i {
			l = append(l, name)
		}
	}
	return l
}

// slowTarget returns a target by the chapter's words alone.
func slowTarget(b runbook.Book, word string) (int, bool) {
	if i := slices.Index([]string{"done", "fail", "doubt"}, word); i >= 0 {
		return -1 - i, true
	}
	i := slices.IndexFunc(b.Steps, func(s runbook.Step) bool { return s.Name == word })
	return i, i >= 0
}

func isNoTarget(b runbook.Book, word string) bool {
	_, ok := slowTarget(b, word)
	return !ok
}

// slowViolations returns all conditions that a book violates, by the chapter's words alone, in any order.
func slowViolations(b runbook.Book) []violation {
	var l []violation
	for i, s := range b.Steps {
		for j, a := range s.Arms {
			l = append(l, ofArm(b, i, j, a)...)
		}
		l = append(l, ofStep(b, i, s)...)
	}
	if b.Most < 1 || b.Most > 1000 {
		l = append(l, violation{-1, -1, 2, 0, api.ErrArg})
	}
	if len(b.Steps) == 0 {
		l = append(l, violation{-1, -1, 1, 0, api.ErrNone})
	}
	return l
}

func ofStep(b runbook.Book, i int, s runbook.Step) []violation {
	var l []violation
	add := func(rank int, e api.Errno, is bool) {
		if is {
			l = append(l, violation{i, -1, rank, s.At, e})
		}
	}
	add(1, api.ErrFull, i+1 >= 31)
	add(2, api.ErrTwice, slices.ContainsFunc(b.Steps[:i], func(earlier runbook.Step) bool { return earlier.Name == s.Name }))
	add(2, api.ErrTwice, s.Name == "done" || s.Name == "fail" || s.Name == "doubt")
	add(3, api.ErrArg, s.Tag != 0 && s.Tag != 1 && s.Tag != 2)
	add(3, api.ErrArg, s.Sends && s.Tag == 0)
	add(3, api.ErrArg, !s.Sends && s.Tag != 0)
	add(3, api.ErrArg, s.Tag == 1 && s.Try != 0)
	add(3, api.ErrArg, s.Time < 1 || s.Time > 100)
	add(3, api.ErrArg, s.Try < 0 || s.Try > 5)
	names, _, e := vars.Names(s.Send)
	add(4, api.ErrForm, e != api.OK)
	for _, name := range names {
		add(5, api.ErrName, !slices.Contains(slowVariables(b), name))
	}
	add(5, api.ErrName, isNoTarget(b, s.Else))
	return l
}

func ofArm(b runbook.Book, i, j int, a runbook.Arm) []violation {
	var l []violation
	add := func(rank int, e api.Errno, is bool) {
		if is {
			l = append(l, violation{i, j, rank, a.At, e})
		}
	}
	add(1, api.ErrFull, j+1 >= 7)
	ops, _, e := regex.Parse(a.Pattern)
	add(2, e, e != api.OK)
	_, e = nfa.Build(ops)
	add(3, e, e != api.OK)
	add(4, api.ErrFull, slices.Index(slowVariables(b), a.As)+1 >= 9)
	add(5, api.ErrName, isNoTarget(b, a.Go))
	return l
}

// slowCompile is Compile by the chapter's words alone: it looks for all conditions that are violated, then which of them is the first one.
func slowCompile(b runbook.Book) (api.Book, int, api.Errno) {
	if l := slowViolations(b); len(l) > 0 {
		first := slices.MinFunc(l, inOrder)
		return api.Book{}, first.place, first.e
	}
	c := api.Book{Vars: slowVariables(b), Most: b.Most}
	for _, s := range b.Steps {
		to, _ := slowTarget(b, s.Else)
		c.Steps = append(c.Steps, api.Step{Name: s.Name, Tag: s.Tag, Send: s.Send, Arms: slowArms(b, s), Time: s.Time, Try: s.Try, Else: to})
	}
	return c, 0, api.OK
}

func slowArms(b runbook.Book, s runbook.Step) []api.Arm {
	var l []api.Arm
	for _, a := range s.Arms {
		to, _ := slowTarget(b, a.Go)
		// An empty As is in no list of variables, so it has the index -1.
		l = append(l, api.Arm{Pattern: a.Pattern, Var: slices.Index(slowVariables(b), a.As), To: to})
	}
	return l
}
