package nfa

import (
	"slices"

	"davit/regex"
)

// sequences is a stack of sequences of instructions. They lie in code one behind the other, so nothing is moved when the last two are joined; and as jumps are differences, those in a sequence remain right when it is moved.
type sequences struct {
	code    []Inst
	begins  []int // where in code each of them begins
	tooMany bool  // there were more instructions than there may be
}

// maker does with a stack what an op asks for; it returns false if the op does not find what it pops.
type maker func(s *sequences, op regex.Op) bool

// makers returns the maker of each kind of op.
func makers() map[int]maker {
	return map[int]maker{
		regex.Set:  (*sequences).set,
		regex.None: (*sequences).none,
		regex.Cat:  (*sequences).cat,
		regex.Alt:  (*sequences).alt,
		regex.Star: (*sequences).star,
		regex.Plus: (*sequences).plus,
		regex.Opt:  (*sequences).opt,
	}
}

// execute does what all of the ops ask for, and reports whether they can be executed.
func (s *sequences) execute(l []regex.Op) bool {
	all := makers()
	for _, op := range l {
		do, ok := all[op.Kind]
		if !ok || !do(s, op) {
			return false
		}
	}
	return len(s.begins) == 1
}

func (s *sequences) set(op regex.Op) bool {
	s.pushEmpty()
	s.emit(Inst{Kind: One, Not: op.Not, Spans: op.Spans})
	return true
}

func (s *sequences) none(regex.Op) bool {
	s.pushEmpty()
	return true
}

func (s *sequences) cat(regex.Op) bool {
	_, _, ok := s.join()
	return ok
}

func (s *sequences) alt(regex.Op) bool {
	a, b, ok := s.join()
	if !ok {
		return false
	}
	sizeOfA, sizeOfB := b-a, len(s.code)-b
	s.insert(b, Inst{Kind: Go, X: sizeOfB + 1})
	s.insert(a, Inst{Kind: Two, X: 1, Y: sizeOfA + 2})
	return true
}

func (s *sequences) star(regex.Op) bool {
	a, size, ok := s.last()
	if !ok {
		return false
	}
	s.insert(a, Inst{Kind: Two, X: 1, Y: size + 2})
	s.emit(Inst{Kind: Go, X: -size - 1})
	return true
}

func (s *sequences) plus(regex.Op) bool {
	_, size, ok := s.last()
	if !ok {
		return false
	}
	s.emit(Inst{Kind: Two, X: -size, Y: 1})
	return true
}

func (s *sequences) opt(regex.Op) bool {
	a, size, ok := s.last()
	if !ok {
		return false
	}
	s.insert(a, Inst{Kind: Two, X: 1, Y: size + 1})
	return true
}

func (s *sequences) pushEmpty() {
	s.begins = append(s.begins, len(s.code))
}

// last returns where the last sequence begins, and its size; false if there is none.
func (s *sequences) last() (int, int, bool) {
	if len(s.begins) == 0 {
		return 0, 0, false
	}
	begin := s.begins[len(s.begins)-1]
	return begin, len(s.code) - begin, true
}

// join makes one sequence of the last two, and returns where each of them began; false if there are fewer.
func (s *sequences) join() (int, int, bool) {
	last := len(s.begins) - 1
	if last < 1 {
		return 0, 0, false
	}
	a, b := s.begins[last-1], s.begins[last]
	s.begins = s.begins[:last]
	return a, b, true
}

// emit adds an instruction to the last sequence.
func (s *sequences) emit(x Inst) {
	s.insert(len(s.code), x)
}

// insert adds an instruction at an index of code. Those that are too many are left out: no op takes any away, so what they would be does not matter any more, only whether the other ops can be executed.
func (s *sequences) insert(at int, x Inst) {
	if len(s.code) == mostInstructions {
		s.tooMany = true
		return
	}
	s.code = slices.Insert(s.code, at, x)
}
