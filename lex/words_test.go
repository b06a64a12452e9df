package lex_test

import (
	"bytes"
	"strings"

	"davit/api"
	"davit/lex"
)

const (
	letters     = "abcdefghijklmnopqrstuvwxyz"
	digits      = "0123456789"
	betweenThem = "\t\n\r "
)

// made is a token by the chapter's words, and the index at which it ends.
type made struct {
	lex.Token
	end int
}

// slowCut is Cut by the chapter's words alone: behind what lies between tokens, it takes the longest token from there on, for which it tries all ends.
func slowCut(s []byte) ([]made, int, api.Errno) {
	if len(s) > 2000 {
		return nil, 0, api.ErrFull
	}
	var l []made
	for i := 0; i < len(s); {
		if size := gap(s[i:]); size > 0 {
			i += size
			continue
		}
		token, size := longest(s[i:])
		if size == 0 {
			return nil, i + reachOfText(s[i:]), api.ErrForm
		}
		if !isAllowed(token.Kind, s[i:i+size]) {
			return nil, i, api.ErrForm
		}
		token.At = i
		i += size
		l = append(l, made{token, i})
	}
	return l, 0, api.OK
}

// gap returns the number of bytes with which s begins that are one byte between tokens, or one comment.
func gap(s []byte) int {
	if strings.IndexByte(betweenThem, s[0]) >= 0 {
		return 1
	}
	if s[0] != '#' {
		return 0
	}
	comment, _, _ := bytes.Cut(s, []byte("\n"))
	return len(comment)
}

// longest returns the longest beginning of s that is a token, whatever the size of a Word or a Number, and its size; 0 if there is none.
func longest(s []byte) (lex.Token, int) {
	for size := len(s); size > 0; size-- {
		if token, ok := whole(s[:size]); ok {
			return token, size
		}
	}
	return lex.Token{}, 0
}

// whole returns the token that all of s is; false if it is none.
func whole(s []byte) (lex.Token, bool) {
	last := len(s) - 1
	switch {
	case consistsOf(s[:1], letters) && consistsOf(s, letters+digits+"_"):
		return lex.Token{Kind: lex.Word, Text: bytes.Clone(s)}, true
	case consistsOf(s, digits):
		return lex.Token{Kind: lex.Number, N: value(s)}, true
	case last > 0 && s[0] == '"' && s[last] == '"':
		text, ok := characters(s[1:last])
		return lex.Token{Kind: lex.Text, Text: text}, ok
	}
	return lex.Token{}, false
}

func consistsOf(s []byte, of string) bool {
	for _, c := range s {
		if strings.IndexByte(of, c) < 0 {
			return false
		}
	}
	return true
}

// value returns the value of up to four digits; nobody asks for that of more.
func value(s []byte) int {
	n := 0
	for i := 0; i < len(s) && i < 4; i++ {
		n = 10*n + strings.IndexByte(digits, s[i])
	}
	return n
}

// characters returns the bytes for which the characters stand that s consists of; false if it does not.
func characters(s []byte) ([]byte, bool) {
	var text []byte
	for len(s) > 0 {
		size := 1
		if s[0] == '\\' {
			size = 2
		}
		if s[0] == '"' || len(s) < size || s[0] < 32 || s[size-1] < 32 {
			return nil, false
		}
		if string(s[:size]) == `\"` {
			text = append(text, '"')
		} else {
			text = append(text, s[:size]...)
		}
		s = s[size:]
	}
	return text, true
}

// isAllowed reports whether a token with these bytes has a size that it may have, and no leading 0.
func isAllowed(kind int, s []byte) bool {
	switch kind {
	case lex.Word:
		return len(s) <= 20
	case lex.Number:
		return len(s) <= 4 && (s[0] != '0' || string(s) == "0")
	}
	return true
}

// reachOfText returns the number of bytes up to the first one at which a Text that begins with s can't be continued: 0 if none begins.
func reachOfText(s []byte) int {
	for size := range len(s) {
		if !beginsText(s[:size+1]) {
			return size
		}
	}
	return len(s)
}

// beginsText reports whether s, with something behind it, is a Text: a ", or two if the first of them is escaped.
func beginsText(s []byte) bool {
	for _, end := range []string{`"`, `""`} {
		if token, ok := whole([]byte(string(s) + end)); ok && token.Kind == lex.Text {
			return true
		}
	}
	return false
}
