package vars

import (
	"iter"
	"slices"
)

const (
	lineFeed       = 10
	carriageReturn = 13
	discard        = 21
)

// table is names and, at the same indices, their values.
type table struct {
	names  []string
	values [][]byte
}

func (t table) hasAll(names []string) bool {
	for _, name := range names {
		if !slices.Contains(t.names, name) {
			return false
		}
	}
	return true
}

// value returns the value of a name that the table has; none if the values end ahead of it.
func (t table) value(name string) []byte {
	if i := slices.Index(t.names, name); i < len(t.values) {
		return t.values[i]
	}
	return nil
}

// meaning returns the bytes for which a piece stands, if the table has the name of a variable.
func (t table) meaning(p piece) []byte {
	if p.kind == variable {
		return t.value(string(p.text))
	}
	return p.text
}

// filled yields the bytes of the text, filled; the table must have all names of the text.
func filled(text []byte, known table) iter.Seq[byte] {
	return func(yield func(byte) bool) {
		for _, p := range pieces(text) {
			for _, b := range known.meaning(p) {
				if !isOmitted(b) && !yield(b) {
					return
				}
			}
		}
	}
}

// isOmitted reports whether b may not be in a line, which it would end too early, or discard.
func isOmitted(b byte) bool {
	return b == lineFeed || b == carriageReturn || b == discard
}
