package seek

import "davit/nfa"

// mostInstructions is how many instructions an arm may have.
const mostInstructions = 200

// noStart is the start at an instruction where no run is.
const noStart = -1

// runs are the executions of an arm that have come to one position in the bytes. Each is at an instruction, and has a start, the position from which on it consumed the bytes. Of those at the same instruction only the one with the smallest start is kept: they would go on alike.
type runs struct {
	arm    []nfa.Inst
	starts [mostInstructions]int
	at     []int // the instructions where a run is, in the order of their starts
}

func newRuns(arm []nfa.Inst) *runs {
	r := &runs{arm: arm, at: make([]int, 0, len(arm))}
	for i := range r.starts {
		r.starts[i] = noStart
	}
	return r
}

// firstMatch returns the begin and the end of the first match of one arm in b; false if there is none, or if the arm has too many instructions.
func firstMatch(arm []nfa.Inst, b []byte) (int, int, bool) {
	if len(arm) > mostInstructions {
		return 0, 0, false
	}
	now, next := newRuns(arm), newRuns(arm)
	now.enter(0, 0)
	for i, c := range b {
		if start, ok := now.done(); ok {
			return start, i, true
		}
		next.follow(now, c)
		next.enter(0, i+1)
		now, next = next, now
	}
	start, ok := now.done()
	return start, len(b), ok
}

// follow makes r what the runs before become when they consume c.
func (r *runs) follow(before *runs, c byte) {
	r.clear()
	for _, i := range before.at {
		if x := r.arm[i]; x.Kind == nfa.One && nfa.Has(x, c) {
			r.enter(i+1, before.starts[i])
		}
	}
}

// enter adds a run at the instruction i, and at all those to which it leads without consuming anything. It is called with starts that never become smaller, so a run that is already there has the smaller one.
func (r *runs) enter(i, start int) {
	// A jump too far for an int wraps round to an index below 0, so it leads nowhere too.
	if i < 0 || i >= len(r.arm) || r.starts[i] != noStart {
		return
	}
	r.starts[i] = start
	r.at = append(r.at, i)
	switch x := r.arm[i]; x.Kind {
	case nfa.Two:
		r.enter(i+x.X, start)
		r.enter(i+x.Y, start)
	case nfa.Go:
		r.enter(i+x.X, start)
	}
}

// done returns the smallest start of a run that is at a Done; false if there is none.
func (r *runs) done() (int, bool) {
	for _, i := range r.at {
		if r.arm[i].Kind == nfa.Done {
			return r.starts[i], true
		}
	}
	return 0, false
}

func (r *runs) clear() {
	for _, i := range r.at {
		r.starts[i] = noStart
	}
	r.at = r.at[:0]
}
