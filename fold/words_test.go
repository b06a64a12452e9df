package fold_test

import (
	"math"
	"slices"
	"strings"

	"davit/api"
	"davit/record"
)

// isUpTo reports whether x is from least, which is not below 0, to most, or to one more than that. No number is added to most, as it may be the greatest one.
func isUpTo(x, least, most int, oneMore bool) bool {
	return x >= least && (x <= most || oneMore && x-1 == most)
}

// hasEnded reports whether a state's Step is one of the three ends.
func hasEnded(s api.State) bool {
	return s.Step == -1 || s.Step == -2 || s.Step == -3
}

// places returns all Steps that a state may have.
func places(b api.Book) []int {
	l := []int{-3, -2, -1}
	for i := range b.Steps {
		l = append(l, i)
	}
	return l
}

// stepOf returns the step at which a state is; the zero one if it is at none.
func stepOf(b api.Book, s api.State) api.Step {
	for i, p := range b.Steps {
		if i == s.Step {
			return p
		}
	}
	return api.Step{}
}

// stateFaults returns what the chapter's words about a valid state ask for, and s does not meet.
func stateFaults(b api.Book, s api.State) []string {
	l := faults{}
	l.unless(slices.Contains(places(b), s.Step), "the step of the state")
	l.unless(isUpTo(s.Visit, 1, b.Most, hasEnded(s)), "the visit of the state")
	if hasEnded(s) {
		l.unless(s.Tries == 0, "the tries of the state")
	} else {
		l.unless(isUpTo(s.Tries, 0, stepOf(b, s).Try, true), "the tries of the state")
	}
	l.unless(isUpTo(s.Offset, 0, 2147483647, false), "the offset of the state")
	l.unless(len(s.Vars) == len(b.Vars), "the number of variables of the state")
	l.unless(!slices.ContainsFunc(s.Vars, func(v []byte) bool { return len(v) > 100 }), "the size of a variable of the state")
	return l
}

// faults tells what is not as it should be.
type faults []string

func (l *faults) unless(isMet bool, what string) {
	if !isMet {
		*l = append(*l, what)
	}
}

// recordFaults returns what the chapter's words about a record that can follow a state ask for, and r does not meet.
func recordFaults(b api.Book, s api.State, r record.Rec) []string {
	l := faults(stateFaults(b, s))
	l.unless(!hasEnded(s), "a run that goes on")
	l.unless(record.May(r), "a valid record")
	switch r.Kind {
	case 2:
		l.unless(r.Visit == s.Visit, "the visit of the intent")
		l.unless(r.Step == s.Step, "the step of the intent")
		l.unless(r.Try == s.Tries, "the try of the intent")
		l.unless(s.Tries <= stepOf(b, s).Try, "a try that the step has")
	case 3:
		l.unless(r.Visit == s.Visit, "the visit of the outcome")
		l.unless(s.Tries != 0, "an intent before the outcome")
		l.unless(slices.Contains(places(b), r.To), "the target of the outcome")
		l.unless(r.Var == -1 || r.Var >= 0 && r.Var < len(b.Vars), "the variable of the outcome")
		l.unless(leaves(b, s, r), "a way to leave the step")
	default:
		l.unless(false, "a kind that can follow")
	}
	return l
}

// leaves reports whether one of the step's arms, or the want of a match, leads to an outcome.
func leaves(b api.Book, s api.State, r record.Rec) bool {
	for _, w := range ways(b, s) {
		if r.To == w.to && r.Var == w.v && (r.Offset == s.Offset || w.isFurther && r.Offset > s.Offset) {
			return true
		}
	}
	return false
}

// way is how a step can be left: with an offset that may be greater than the state's, or only with the same.
type way struct {
	to, v     int
	isFurther bool
}

// ways returns those of the state's step: one for each arm, and two without a match.
func ways(b api.Book, s api.State) []way {
	l := []way{{stepOf(b, s).Else, -1, false}, {-2, -1, false}}
	for _, a := range stepOf(b, s).Arms {
		l = append(l, way{a.To, a.Var, true})
	}
	return l
}

// slowRight is Right by the chapter's words.
func slowRight(b api.Book, s api.State) bool {
	return len(stateFaults(b, s)) == 0
}

// slowNext is Next by the chapter's words.
func slowNext(b api.Book, s api.State, r record.Rec) (api.State, api.Errno) {
	if len(recordFaults(b, s, r)) > 0 {
		return api.State{}, api.ErrTorn
	}
	if r.Kind == 2 {
		return api.State{Step: s.Step, Visit: s.Visit, Tries: s.Tries + 1, Offset: s.Offset, Vars: s.Vars}, api.OK
	}
	after := api.State{Step: r.To, Visit: s.Visit + 1, Tries: 0, Offset: r.Offset}
	if r.To >= 0 && s.Visit == b.Most {
		after.Step = -2
	}
	for i, v := range s.Vars {
		if i == r.Var {
			v = r.Value
		}
		after.Vars = append(after.Vars, v)
	}
	return after, api.OK
}

// slowStart is Start by the chapter's words.
func slowStart(b api.Book) api.State {
	s := api.State{Step: 0, Visit: 1, Tries: 0, Offset: 0}
	for range b.Vars {
		s.Vars = append(s.Vars, nil)
	}
	return s
}

// slowAll is All by the chapter's words.
func slowAll(b api.Book, l [][]byte) (api.State, api.Errno) {
	if len(l) == 0 {
		return slowStart(b), api.OK
	}
	first, e := record.Get(l[0])
	if e != api.OK || first.Kind != 1 || !slowRight(b, first.S) {
		return api.State{}, api.ErrTorn
	}
	s := first.S
	for _, x := range l[1:] {
		r, e := record.Get(x)
		if e != api.OK {
			return api.State{}, api.ErrTorn
		}
		if s, e = slowNext(b, s, r); e != api.OK {
			return api.State{}, e
		}
	}
	return s, api.OK
}

// followers returns records that can follow a state, if they are valid: its Intent, and for each way to leave the step the Outcomes with some offsets and values.
func followers(b api.Book, s api.State) []record.Rec {
	if hasEnded(s) {
		return nil
	}
	var l []record.Rec
	if s.Tries <= stepOf(b, s).Try {
		l = append(l, record.Rec{Kind: 2, Visit: s.Visit, Step: s.Step, Try: s.Tries})
	}
	if s.Tries == 0 {
		return l
	}
	for _, w := range ways(b, s) {
		offsets, values := []int{s.Offset}, []string{""}
		if w.isFurther {
			offsets = append(offsets, s.Offset+1, s.Offset+256, math.MaxInt32)
		}
		if w.v != -1 {
			values = append(values, "x", "\x00\n", strings.Repeat("y", 100))
		}
		for _, offset := range offsets {
			for _, value := range values {
				l = append(l, record.Rec{Kind: 3, Visit: s.Visit, To: w.to, Offset: offset, Var: w.v, Value: []byte(value)})
			}
		}
	}
	return l
}
