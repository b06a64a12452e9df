package check_test

import (
	"fmt"
	"strings"
	"testing"

	"davit/api"
	"davit/runbook"
)

// fault is a way to violate one condition. Of two faults in one step, or in one arm, that of the lower rank is returned.
type fault struct {
	name string
	rank int
	e    api.Errno
	make func(b *runbook.Book, i, j int) // in the step i, and there in the arm j
}

// ofStepOnly makes a fault that changes a step, but no arm.
func ofStepOnly(change func(s *runbook.Step)) func(b *runbook.Book, i, j int) {
	return func(b *runbook.Book, i, j int) { change(&b.Steps[i]) }
}

// ofArmOnly makes a fault that changes an arm.
func ofArmOnly(change func(a *runbook.Arm)) func(b *runbook.Book, i, j int) {
	return func(b *runbook.Book, i, j int) { change(&b.Steps[i].Arms[j]) }
}

// stepFaults returns faults of each condition of a step, but for that of the thirty-first one.
func stepFaults() []fault {
	return []fault{
		{"the name of the first step", 2, api.ErrTwice, ofStepOnly(func(s *runbook.Step) { s.Name = "s0" })},
		{"the name of the step ahead", 2, api.ErrTwice, func(b *runbook.Book, i, j int) { b.Steps[i].Name = b.Steps[i-1].Name }},
		{"done as a name", 2, api.ErrTwice, ofStepOnly(func(s *runbook.Step) { s.Name = "done" })},
		{"fail as a name", 2, api.ErrTwice, ofStepOnly(func(s *runbook.Step) { s.Name = "fail" })},
		{"doubt as a name", 2, api.ErrTwice, ofStepOnly(func(s *runbook.Step) { s.Name = "doubt" })},
		{"a tag below 0", 3, api.ErrArg, ofStepOnly(func(s *runbook.Step) { s.Tag = -1 })},
		{"the tag 3", 3, api.ErrArg, ofStepOnly(func(s *runbook.Step) { s.Tag = 3 })},
		{"Plain with Sends", 3, api.ErrArg, ofStepOnly(func(s *runbook.Step) { s.Tag = api.Plain })},
		{"Idem without Sends", 3, api.ErrArg, ofStepOnly(func(s *runbook.Step) { s.Sends = false })},
		{"Once with a Try", 3, api.ErrArg, ofStepOnly(func(s *runbook.Step) { s.Tag = api.Once })},
		{"the time 0", 3, api.ErrArg, ofStepOnly(func(s *runbook.Step) { s.Time = 0 })},
		{"the time 101", 3, api.ErrArg, ofStepOnly(func(s *runbook.Step) { s.Time = 101 })},
		{"a Try below 0", 3, api.ErrArg, ofStepOnly(func(s *runbook.Step) { s.Try = -1 })},
		{"the Try 6", 3, api.ErrArg, ofStepOnly(func(s *runbook.Step) { s.Try = 6 })},
		{"a line that is none", 4, api.ErrForm, ofStepOnly(func(s *runbook.Step) { s.Send = append([]byte("$ "), s.Send...) })},
		{"a line with an unknown name", 5, api.ErrName, ofStepOnly(func(s *runbook.Step) { s.Send = append([]byte("$other "), s.Send...) })},
		{"an Else that is no target", 6, api.ErrName, ofStepOnly(func(s *runbook.Step) { s.Else = "nope" })},
	}
}

// armFaults returns faults of each condition of an arm, but for that of the seventh one.
func armFaults() []fault {
	return []fault{
		{"half a pattern", 2, api.ErrForm, ofArmOnly(func(a *runbook.Arm) { a.Pattern = []byte("(") })},
		{"a long pattern", 2, api.ErrFull, ofArmOnly(func(a *runbook.Arm) { a.Pattern = []byte(strings.Repeat("(", 81)) })},
		{"a deep pattern", 2, api.ErrDeep, ofArmOnly(func(a *runbook.Arm) { a.Pattern = []byte("((((((((()))))))))") })},
		{"a ninth variable", 3, api.ErrFull, ofArmOnly(func(a *runbook.Arm) { a.As = "nope" })},
		{"one of several that are too many", 3, api.ErrFull, func(b *runbook.Book, i, j int) { b.Steps[i].Arms[j].As = fmt.Sprintf("nope%d_%d", i, j) }},
		{"a Go that is no target", 4, api.ErrName, ofArmOnly(func(a *runbook.Arm) { a.Go = "nope" })},
	}
}

// clean returns a book that violates nothing, up to 30 steps and 6 arms, in which the first two steps have eight variables, and nothing depends on those behind. No place in it occurs twice; they rise, or fall if by is below 0.
func clean(steps, arms, by int) runbook.Book {
	b := runbook.Book{Most: 1000}
	for i := range steps {
		s := runbook.Step{At: by * (1 + 100*i), Name: fmt.Sprintf("s%d", i), Tag: api.Idem, Sends: true, Send: []byte("$v0"), Time: 100, Try: 5, Else: "s0"}
		size := arms
		if i < 2 {
			size = 4
		}
		for j := range size {
			a := runbook.Arm{At: by * (2 + 100*i + j), Pattern: []byte("a|b"), As: fmt.Sprintf("v%d", 4*(i%2)+j%4), Go: "s1"}
			s.Arms = append(s.Arms, a)
		}
		b.Steps = append(b.Steps, s)
	}
	return b
}

func TestCleanBook(t *testing.T) {
	for steps := 2; steps <= 30; steps++ {
		for arms := range 7 {
			for _, by := range []int{1, -1} {
				returns(t, clean(steps, arms, by), 0, api.OK)
			}
		}
	}
}

// spot is a fault and where it is; arm is -1 for those of a step.
type spot struct {
	fault
	step, arm int
}

func (p spot) put(b *runbook.Book) {
	p.make(b, p.step, p.arm)
}

// place returns the place of the fault.
func (p spot) place(b runbook.Book) int {
	if p.arm < 0 {
		return b.Steps[p.step].At
	}
	return b.Steps[p.step].Arms[p.arm].At
}

// isAhead reports whether the condition of p is ahead of that of q.
func (p spot) isAhead(q spot) bool {
	switch {
	case p.step != q.step:
		return p.step < q.step
	case p.arm != q.arm:
		return p.arm < q.arm
	}
	return p.rank < q.rank
}

// spots returns all faults in each of these steps, and in each of these arms of them.
func spots(steps, arms []int) []spot {
	var l []spot
	for _, i := range steps {
		for _, f := range stepFaults() {
			l = append(l, spot{f, i, -1})
		}
		for _, j := range arms {
			for _, f := range armFaults() {
				l = append(l, spot{f, i, j})
			}
		}
	}
	return l
}

func TestEachFaultAlone(t *testing.T) {
	for _, by := range []int{1, -1} {
		for _, p := range spots([]int{2, 3, 4}, []int{0, 1, 5}) {
			b := clean(5, 6, by)
			p.put(&b)
			returns(t, b, p.place(b), p.e)
		}
	}
}

// Two conditions that are violated: in one step, in two, in an arm and its step, in two arms, in an arm and another step.
func TestEachTwoFaults(t *testing.T) {
	all := spots([]int{2, 3}, []int{0, 1})
	for _, p := range all {
		for _, q := range all {
			// Two of the same condition may undo each other, and have the same error and place.
			if !p.isAhead(q) {
				continue
			}
			for _, order := range [][]spot{{p, q}, {q, p}} {
				b := clean(4, 2, 1-2*(p.step&1))
				order[0].put(&b)
				order[1].put(&b)
				if e := agrees(t, b); e != p.e {
					t.Fatalf("%s and %s: error %d, not %d", p.name, q.name, e, p.e)
				}
				fails(t, b, p.place(b), p.e)
			}
		}
	}
}

// A book's own conditions are ahead of all others, and no steps ahead of a Most.
func TestMostAndOtherFaults(t *testing.T) {
	for _, most := range []int{-1, 0, 1001} {
		for _, p := range spots([]int{2, 3}, []int{0, 1}) {
			b := clean(4, 2, 1)
			b.Most = most
			p.put(&b)
			returns(t, b, 0, api.ErrArg)
		}
		for _, size := range []int{31, 32, 100} {
			b := clean(size, 7, -1)
			b.Most = most
			returns(t, b, 0, api.ErrArg)
		}
		returns(t, runbook.Book{Most: most}, 0, api.ErrNone)
	}
}

// A thirty-first step ends the look at the book ahead of what else is wrong with it, but behind the steps before it.
func TestThirtyFirstStepAndOtherFaults(t *testing.T) {
	for _, p := range spots([]int{2, 28, 29, 30, 31, 32}, []int{0, 1}) {
		for _, size := range []int{33, 34} {
			b := clean(size, 2, 1)
			p.put(&b)
			if p.step < 30 {
				returns(t, b, p.place(b), p.e)
			} else {
				returns(t, b, b.Steps[30].At, api.ErrFull)
			}
		}
	}
}

// A seventh arm ends the look at the book ahead of what else is wrong with it, but behind the step and the arms before it.
func TestSeventhArmAndOtherFaults(t *testing.T) {
	for _, size := range []int{7, 8, 9} {
		for _, p := range spots([]int{2, 3}, []int{0, 1, 4, 5, 6}) {
			b := clean(4, 0, 1)
			for i := range b.Steps[2:] {
				b.Steps[2+i].Arms = clean(4, size, 1).Steps[2+i].Arms
			}
			p.put(&b)
			if p.step == 2 && p.arm < 6 {
				returns(t, b, p.place(b), p.e)
			} else {
				returns(t, b, b.Steps[2].Arms[6].At, api.ErrFull)
			}
		}
	}
}

// The step ahead has no seventh arm, the one with the fault has.
func TestSeventhArmBehindAStep(t *testing.T) {
	for _, p := range spots([]int{2, 3}, []int{0, 5, 6}) {
		b := clean(4, 6, -1)
		b.Steps[3].Arms = clean(4, 7, -1).Steps[3].Arms
		if p.step == 2 && p.arm == 6 {
			continue
		}
		p.put(&b)
		if p.step == 3 && p.arm == 6 {
			returns(t, b, b.Steps[3].Arms[6].At, api.ErrFull)
		} else {
			returns(t, b, p.place(b), p.e)
		}
	}
}

// All conditions at once; then one after the other is mended, and the next one comes to light.
func TestAllFaultsAtOnce(t *testing.T) {
	b := clean(32, 7, -1)
	for i := range b.Steps {
		if i >= 2 {
			b.Steps[i].Arms = b.Steps[i].Arms[:min(7, 3+i)]
		}
	}
	s := &b.Steps[2]
	b.Most = 0
	s.Name, s.Tag, s.Send, s.Else = "doubt", 7, []byte("$other $"), "nope"
	a := &s.Arms[1]
	a.Pattern, a.As, a.Go = []byte("a)"), "nope_", "nope"
	for _, next := range []struct {
		place int
		e     api.Errno
		mend  func()
	}{
		{0, api.ErrArg, func() { b.Most = 1 }},
		{s.At, api.ErrTwice, func() { s.Name = "s2" }},
		{s.At, api.ErrArg, func() { s.Tag = api.Once }},
		{s.At, api.ErrArg, func() { s.Try = 0 }},
		{s.At, api.ErrForm, func() { s.Send = []byte("$other $$") }},
		{s.At, api.ErrName, func() { s.Send = []byte("$v7 $$") }},
		{s.At, api.ErrName, func() { s.Else = "fail" }},
		{a.At, api.ErrForm, func() { a.Pattern = []byte(`a\)`) }},
		{a.At, api.ErrFull, func() { a.As = "v7" }},
		{a.At, api.ErrName, func() { a.Go = "s2" }},
		{b.Steps[4].Arms[6].At, api.ErrFull, func() {
			for i := range b.Steps {
				b.Steps[i].Arms = b.Steps[i].Arms[:min(6, len(b.Steps[i].Arms))]
			}
		}},
		{b.Steps[30].At, api.ErrFull, func() { b.Steps = b.Steps[:30] }},
	} {
		returns(t, b, next.place, next.e)
		next.mend()
	}
	returns(t, b, 0, api.OK)
}
