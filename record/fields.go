package record

import (
	"math"

	"davit/api"
)

// noVariable is the Var of an outcome that sets no variable.
const noVariable = -1

// span is the range of a number, and how it is encoded: plus is added to it, as no encoded number is below 0, and the sum takes size bytes.
type span struct {
	least, most int
	plus, size  int
}

// places is the span of where a run may be: at a step, or at one of its ends.
func places() span {
	return span{least: api.Doubt, most: api.MaxSteps - 1, plus: -api.Doubt, size: 1}
}

// visits has one more than there may be, because the last visit is followed by an end.
func visits() span {
	return span{least: 1, most: api.MaxVisit + 1, size: 2}
}

func offsets() span {
	return span{most: math.MaxInt32, size: 4}
}

// pass is what is done to the fields of a record, one after the other.
type pass interface {
	number(at *int, s span)
	text(at *[]byte)
	texts(at *[][]byte)
}

// fields are those of a record, for one pass over them.
type fields struct {
	r  *Rec
	do pass
}

// row returns the fields that a record of its kind has, in the order of their encoding. There is only this one row, so that what is judged, written and read can't differ.
func (f *fields) row() []func() {
	switch f.r.Kind {
	case Point:
		return []func(){f.stateStep, f.stateVisit, f.stateTries, f.stateOffset, f.stateVars}
	case Intent:
		return []func(){f.visit, f.step, f.try}
	case Outcome:
		return []func(){f.visit, f.to, f.offset, f.variable, f.value}
	}
	return nil
}

func forEachField(r *Rec, do pass) {
	f := &fields{r, do}
	for _, field := range f.row() {
		field()
	}
}

func (f *fields) stateStep() {
	f.do.number(&f.r.S.Step, places())
}

func (f *fields) stateVisit() {
	f.do.number(&f.r.S.Visit, visits())
}

// stateTries counts the tries that were begun, so it goes up to one more than the last try's number.
func (f *fields) stateTries() {
	f.do.number(&f.r.S.Tries, span{most: api.MaxTries + 1, size: 1})
}

func (f *fields) stateOffset() {
	f.do.number(&f.r.S.Offset, offsets())
}

func (f *fields) stateVars() {
	f.do.texts(&f.r.S.Vars)
}

func (f *fields) visit() {
	f.do.number(&f.r.Visit, visits())
}

func (f *fields) step() {
	f.do.number(&f.r.Step, span{most: api.MaxSteps - 1, size: 1})
}

func (f *fields) try() {
	f.do.number(&f.r.Try, span{most: api.MaxTries, size: 1})
}

func (f *fields) to() {
	f.do.number(&f.r.To, places())
}

func (f *fields) offset() {
	f.do.number(&f.r.Offset, offsets())
}

func (f *fields) variable() {
	f.do.number(&f.r.Var, span{least: noVariable, most: api.MaxVars - 1, plus: -noVariable, size: 1})
}

func (f *fields) value() {
	f.do.text(&f.r.Value)
}
