package seek_test

import (
	"slices"

	"davit/api"
	"davit/nfa"
	"davit/regex"
	"davit/seek"
)

// slowArms is Arms by the words of the promise: every pattern is read and built, and then the first error counts.
func slowArms(l [][]byte) ([][]nfa.Inst, int, api.Errno) {
	arms := make([][]nfa.Inst, len(l))
	errors := make([]api.Errno, len(l))
	for i, s := range l {
		ops, _, e := regex.Parse(s)
		if e == api.OK {
			arms[i], e = nfa.Build(ops)
		}
		errors[i] = e
	}
	isError := func(e api.Errno) bool { return e != api.OK }
	if i := slices.IndexFunc(errors, isError); i >= 0 {
		return nil, i, errors[i]
	}
	return arms, 0, api.OK
}

// slowLook is Look by the chapter's words alone: every end, every arm, every begin.
func slowLook(arms [][]nfa.Inst, b []byte) (seek.Found, int) {
	window := b[:min(len(b), 256)]
	matched := make([][][]bool, len(arms))
	for i, arm := range arms {
		for from := range len(window) + 1 {
			matched[i] = append(matched[i], lengths(arm, window[from:]))
		}
	}
	for to := range len(window) + 1 {
		for i := range arms {
			for from := range to + 1 {
				if matched[i][from][to-from] {
					return seek.Found{Arm: i, From: from, To: to}, seek.Met
				}
			}
		}
	}
	if len(b) >= 256 {
		return seek.Found{}, seek.Over
	}
	return seek.Found{}, seek.Wait
}

// matches reports whether the arm matches b.
func matches(arm []nfa.Inst, b []byte) bool {
	return lengths(arm, b)[len(b)]
}

// lengths returns for each number, up to the length of b, whether Done can be reached when exactly so many bytes of b are consumed. It tries all executions, and leaves out none but those that come again to where one has been.
func lengths(arm []nfa.Inst, b []byte) []bool {
	type place struct{ inst, consumed int }
	done := make([]bool, len(b)+1)
	seen := make([]bool, len(arm)*(len(b)+1))
	todo := []place{{0, 0}}
	for len(todo) > 0 {
		p := todo[len(todo)-1]
		todo = todo[:len(todo)-1]
		if p.inst == len(arm) || seen[p.consumed*len(arm)+p.inst] {
			continue
		}
		seen[p.consumed*len(arm)+p.inst] = true
		switch x := arm[p.inst]; x.Kind {
		case nfa.One:
			if p.consumed < len(b) && isTaken(x, b[p.consumed]) {
				todo = append(todo, place{p.inst + 1, p.consumed + 1})
			}
		case nfa.Two:
			todo = append(todo, place{target(arm, p.inst, x.X), p.consumed}, place{target(arm, p.inst, x.Y), p.consumed})
		case nfa.Go:
			todo = append(todo, place{target(arm, p.inst, x.X), p.consumed})
		case nfa.Done:
			done[p.consumed] = true
		}
	}
	return done
}

// target returns the index of the instruction that lies further on than i by this difference, or the length of the arm if there is none.
func target(arm []nfa.Inst, i, difference int) int {
	for j := range arm {
		if j-i == difference {
			return j
		}
	}
	return len(arm)
}

func isTaken(x nfa.Inst, c byte) bool {
	in := slices.ContainsFunc(x.Spans, func(s regex.Span) bool { return s.From <= c && c <= s.To })
	return in != x.Not
}
