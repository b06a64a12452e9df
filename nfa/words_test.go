package nfa_test

import (
	"slices"

	"davit/api"
	"davit/nfa"
	"davit/regex"
)

// slowBuild is Build by the chapter's words alone: a stack of sequences, each of them new memory, and no limit to them till the end.
func slowBuild(l []regex.Op) ([]nfa.Inst, api.Errno) {
	var stack [][]nfa.Inst
	for _, op := range l {
		if op.Kind < regex.Set || op.Kind > regex.Opt {
			return nil, api.ErrArg
		}
	}
	for _, op := range l {
		rest := len(stack) - pops(op.Kind)
		if rest < 0 {
			return nil, api.ErrArg
		}
		made := pushed(op, stack[rest:])
		stack = append(slices.Clone(stack[:rest]), made)
	}
	if len(stack) != 1 {
		return nil, api.ErrArg
	}
	all := slices.Concat(stack[0], []nfa.Inst{{Kind: nfa.Done}})
	if len(all) > 200 {
		return nil, api.ErrFull
	}
	return all, api.OK
}

// pops returns how many sequences an op of this kind pops.
func pops(kind int) int {
	switch kind {
	case regex.Cat, regex.Alt:
		return 2
	case regex.Star, regex.Plus, regex.Opt:
		return 1
	}
	return 0
}

// pushed returns the sequence that an op pushes which popped these.
func pushed(op regex.Op, popped [][]nfa.Inst) []nfa.Inst {
	var a, b []nfa.Inst
	if len(popped) > 0 {
		a = popped[0]
	}
	if len(popped) > 1 {
		b = popped[1]
	}
	switch op.Kind {
	case regex.Set:
		return []nfa.Inst{{Kind: nfa.One, Not: op.Not, Spans: op.Spans}}
	case regex.Cat:
		return slices.Concat(a, b)
	case regex.Alt:
		return slices.Concat([]nfa.Inst{two(1, len(a)+2)}, a, []nfa.Inst{leap(len(b) + 1)}, b)
	case regex.Star:
		return slices.Concat([]nfa.Inst{two(1, len(a)+2)}, a, []nfa.Inst{leap(-len(a) - 1)})
	case regex.Plus:
		return slices.Concat(a, []nfa.Inst{two(-len(a), 1)})
	case regex.Opt:
		return slices.Concat([]nfa.Inst{two(1, len(a)+1)}, a)
	}
	return nil
}

// slowHas returns for which bytes Has is true, by the chapter's words: the bytes that the spans contain, one by one.
func slowHas(x nfa.Inst) [256]bool {
	var has [256]bool
	for i := range has {
		has[i] = x.Not
	}
	for _, s := range x.Spans {
		for b := int(s.From); b <= int(s.To); b++ {
			has[b] = !x.Not
		}
	}
	return has
}

func one(spans ...regex.Span) nfa.Inst {
	return nfa.Inst{Kind: nfa.One, Spans: spans}
}

func two(x, y int) nfa.Inst {
	return nfa.Inst{Kind: nfa.Two, X: x, Y: y}
}

func leap(x int) nfa.Inst {
	return nfa.Inst{Kind: nfa.Go, X: x}
}

func span(from, to byte) regex.Span {
	return regex.Span{From: from, To: to}
}

func sameInst(a, b nfa.Inst) bool {
	return a.Kind == b.Kind && a.X == b.X && a.Y == b.Y && a.Not == b.Not && slices.Equal(a.Spans, b.Spans)
}

func sameInsts(a, b []nfa.Inst) bool {
	return slices.EqualFunc(a, b, sameInst)
}
