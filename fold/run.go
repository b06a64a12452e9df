package fold

import (
	"bytes"
	"slices"

	"davit/api"
	"davit/record"
)

// noVariable is the Var of an outcome that sets no variable.
const noVariable = -1

// run is how far the run of a book is known. It has no state before it is begun with a point. The memory of its state is its own.
type run struct {
	book    api.Book
	isBegun bool
	state   api.State
}

// meeting takes a valid record as the next one of a run; it returns false, and changes nothing, if it cannot be that.
type meeting func(x *run, r record.Rec) bool

// meetings returns the meeting of each kind of record.
func meetings() map[int]meeting {
	return map[int]meeting{
		record.Point:   (*run).point,
		record.Intent:  (*run).intent,
		record.Outcome: (*run).outcome,
	}
}

// meet does with a valid record what its kind asks for.
func (x *run) meet(r record.Rec) bool {
	meetKind, ok := meetings()[r.Kind]
	return ok && meetKind(x, r)
}

// point stands for all records before it, so none may have been met.
func (x *run) point(r record.Rec) bool {
	if x.isBegun || !Right(x.book, r.S) {
		return false
	}
	x.isBegun, x.state = true, copied(r.S)
	return true
}

func (x *run) intent(r record.Rec) bool {
	s := &x.state
	if !x.goesOn() || r.Visit != s.Visit || r.Step != s.Step || r.Try != s.Tries || s.Tries > x.step().Try {
		return false
	}
	s.Tries++
	return true
}

func (x *run) outcome(r record.Rec) bool {
	if !x.goesOn() || r.Visit != x.state.Visit || x.state.Tries == 0 || !x.isPossible(r) {
		return false
	}
	x.leave(r)
	return true
}

// goesOn reports whether the run is begun and has not ended. The state after a record may be one that is not valid, if a Try of the book is below 0, so this is asked ahead of each one.
func (x *run) goesOn() bool {
	return x.isBegun && Right(x.book, x.state) && !isEnd(x.state.Step)
}

// step returns the step of a run that goes on.
func (x *run) step() api.Step {
	return x.book.Steps[x.state.Step]
}

// isPossible reports whether the step of a run that goes on may have this outcome.
func (x *run) isPossible(r record.Rec) bool {
	return isTarget(x.book, r.To) && isVariable(x.book, r.Var) && (x.isOfArm(r) || x.isWithoutMatch(r))
}

func (x *run) isOfArm(r record.Rec) bool {
	leads := func(a api.Arm) bool { return a.To == r.To && a.Var == r.Var }
	return r.Offset >= x.state.Offset && slices.ContainsFunc(x.step().Arms, leads)
}

// isWithoutMatch reports whether an outcome may be that of a step that no arm has left.
func (x *run) isWithoutMatch(r record.Rec) bool {
	return r.Offset == x.state.Offset && r.Var == noVariable && (r.To == x.step().Else || r.To == api.Fail)
}

// leave changes the state as a possible outcome tells.
func (x *run) leave(r record.Rec) {
	s := &x.state
	s.Step = r.To
	if s.Visit == x.book.Most && !isEnd(r.To) {
		s.Step = api.Fail
	}
	s.Visit++
	s.Tries = 0
	s.Offset = r.Offset
	if r.Var != noVariable {
		s.Vars[r.Var] = bytes.Clone(r.Value)
	}
}

// copied returns a state whose lists are new memory.
func copied(s api.State) api.State {
	vars := make([][]byte, len(s.Vars))
	for i, v := range s.Vars {
		vars[i] = bytes.Clone(v)
	}
	s.Vars = vars
	return s
}
