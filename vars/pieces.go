package vars

import (
	"iter"

	"davit/api"
)

// The kinds of pieces.
const (
	constant = iota // stands for a byte
	variable        // stands for a value
	nothing         // a $ that stands for nothing
)

// piece is a part of a text.
type piece struct {
	kind int
	size int    // how many bytes of the text it takes
	text []byte // the byte for which a constant stands, or the name of a variable
}

// pieces yields the pieces of a text in order, and the index at which each one begins.
func pieces(text []byte) iter.Seq2[int, piece] {
	return func(yield func(int, piece) bool) {
		for at := 0; at < len(text); {
			p := leading(text[at:])
			if !yield(at, p) {
				return
			}
			at += p.size
		}
	}
}

// leading returns the piece with which a text begins, which must not be empty.
func leading(text []byte) piece {
	first, behind := text[:1], text[1:]
	if first[0] != '$' {
		return piece{constant, 1, first}
	}
	if len(behind) > 0 && behind[0] == '$' {
		return piece{constant, 2, first}
	}
	if n := nameSize(behind); n > 0 && n <= api.MaxWord {
		return piece{variable, 1 + n, behind[:n]}
	}
	return piece{nothing, 1, nil}
}

// nameSize returns the number of bytes with which a text begins that form a name, even if it is too long; 0 if there is none.
func nameSize(text []byte) int {
	if len(text) == 0 || !isLetter(text[0]) {
		return 0
	}
	n := 1
	for n < len(text) && continuesName(text[n]) {
		n++
	}
	return n
}

func isLetter(b byte) bool {
	return b >= 'a' && b <= 'z'
}

func continuesName(b byte) bool {
	return isLetter(b) || b >= '0' && b <= '9' || b == '_'
}
