package check

import (
	"davit/api"
	"davit/nfa"
	"davit/regex"
	"davit/runbook"
	"davit/vars"
)

// condition returns its error if it is violated, and api.OK otherwise.
type condition func() api.Errno

// firstViolated returns the error of the first condition in a row that is violated; api.OK if none is.
func firstViolated(row []condition) api.Errno {
	for _, ask := range row {
		if e := ask(); e != api.OK {
			return e
		}
	}
	return api.OK
}

// errorIf returns e for a condition that is violated.
func errorIf(isViolated bool, e api.Errno) api.Errno {
	if isViolated {
		return e
	}
	return api.OK
}

// firstFault returns the place and the error of the first condition that the book violates; api.OK if there is none.
func (n *names) firstFault(b runbook.Book) (int, api.Errno) {
	if e := firstViolated(ofBook(b)); e != api.OK {
		return 0, e
	}
	for i, s := range b.Steps {
		if e := firstViolated(n.ofStep(i, s)); e != api.OK {
			return s.At, e
		}
		for j, a := range s.Arms {
			if e := firstViolated(n.ofArm(j, a)); e != api.OK {
				return a.At, e
			}
		}
	}
	return 0, api.OK
}

func ofBook(b runbook.Book) []condition {
	return []condition{
		func() api.Errno { return errorIf(len(b.Steps) == 0, api.ErrNone) },
		func() api.Errno { return errorIf(!isWithin(b.Most, 1, api.MaxVisit), api.ErrArg) },
	}
}

// ofStep returns the conditions of the step with the index i, without those of its arms.
func (n *names) ofStep(i int, s runbook.Step) []condition {
	return []condition{
		func() api.Errno { return errorIf(i >= api.MaxSteps, api.ErrFull) },
		func() api.Errno { return errorIf(n.isTaken(s.Name, i), api.ErrTwice) },
		func() api.Errno { return errorIf(!isTag(s.Tag), api.ErrArg) },
		func() api.Errno { return errorIf(s.Sends == (s.Tag == api.Plain), api.ErrArg) },
		func() api.Errno { return errorIf(s.Tag == api.Once && s.Try != 0, api.ErrArg) },
		func() api.Errno { return errorIf(!isWithin(s.Time, 1, api.MaxTime), api.ErrArg) },
		func() api.Errno { return errorIf(!isWithin(s.Try, 0, api.MaxTries), api.ErrArg) },
		func() api.Errno { return n.lineError(s.Send) },
		func() api.Errno { return errorIf(!n.isTarget(s.Else), api.ErrName) },
	}
}

// ofArm returns the conditions of the arm with the index j in its step.
func (n *names) ofArm(j int, a runbook.Arm) []condition {
	return []condition{
		func() api.Errno { return errorIf(j >= api.MaxArms, api.ErrFull) },
		func() api.Errno { return patternError(a.Pattern) },
		func() api.Errno { return errorIf(n.variable(a.As) >= api.MaxVars, api.ErrFull) },
		func() api.Errno { return errorIf(!n.isTarget(a.Go), api.ErrName) },
	}
}

func isWithin(x, least, most int) bool {
	return x >= least && x <= most
}

func isTag(x int) bool {
	return x == api.Plain || x == api.Once || x == api.Idem
}

// lineError returns the error of the text of a line; whether the line is sent does not matter.
func (n *names) lineError(text []byte) api.Errno {
	used, _, e := vars.Names(text)
	if e != api.OK {
		return api.ErrForm
	}
	for _, name := range used {
		if !n.isVariable(name) {
			return api.ErrName
		}
	}
	return api.OK
}

func patternError(pattern []byte) api.Errno {
	ops, _, e := regex.Parse(pattern)
	if e != api.OK {
		return e
	}
	_, e = nfa.Build(ops)
	return e
}
