package fold

import (
	"math"

	"davit/api"
)

// isEnd reports whether a run that is there has ended.
func isEnd(to int) bool {
	return to == api.Done || to == api.Fail || to == api.Doubt
}

// isTarget reports whether a run of the book may be there: at a step, or at an end.
func isTarget(b api.Book, to int) bool {
	return isEnd(to) || to >= 0 && to < len(b.Steps)
}

// isVariable reports whether v is the index of a variable of the book, or stands for none.
func isVariable(b api.Book, v int) bool {
	return v == noVariable || v >= 0 && v < len(b.Vars)
}

// hasRightVisit takes 1 from the visit instead of adding it to Most, which may be the greatest number.
func hasRightVisit(b api.Book, s api.State) bool {
	if s.Visit < 1 {
		return false
	}
	if isEnd(s.Step) {
		return s.Visit-1 <= b.Most
	}
	return s.Visit <= b.Most
}

// hasRightTries takes 1 from the tries instead of adding it to Try, which may be the greatest number.
func hasRightTries(b api.Book, s api.State) bool {
	if isEnd(s.Step) {
		return s.Tries == 0
	}
	return s.Tries >= 0 && s.Tries-1 <= b.Steps[s.Step].Try
}

func hasRightOffset(s api.State) bool {
	return s.Offset >= 0 && s.Offset <= math.MaxInt32
}

func hasRightVars(b api.Book, s api.State) bool {
	for _, v := range s.Vars {
		if len(v) > api.MaxValue {
			return false
		}
	}
	return len(s.Vars) == len(b.Vars)
}
