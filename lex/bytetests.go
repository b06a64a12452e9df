package lex

import "strings"

// test reports whether a byte is one of certain bytes.
type test func(b byte) bool

func letter() test {
	return func(b byte) bool { return b >= 'a' && b <= 'z' }
}

func digit() test {
	return func(b byte) bool { return b >= '0' && b <= '9' }
}

// among returns the test for the bytes of s.
func among(s string) test {
	return func(b byte) bool { return strings.IndexByte(s, b) >= 0 }
}

// either returns the test for the bytes for which one of the tests holds.
func either(tests ...test) test {
	return func(b byte) bool {
		for _, holds := range tests {
			if holds(b) {
				return true
			}
		}
		return false
	}
}
