package vars_test

import (
	"strings"

	"davit/api"
)

const (
	letters = "abcdefghijklmnopqrstuvwxyz"
	digits  = "0123456789"
)

// part is a part of a text: a variable, or bytes that stand for others.
type part struct {
	isVariable bool
	text       string
}

// slowCut cuts a text by the chapter's words alone; or it returns ErrForm and the index of the first $ that is wrong.
func slowCut(s string) ([]part, int, api.Errno) {
	var l []part
	for i := 0; i < len(s); {
		if s[i] != '$' {
			l = append(l, part{text: s[i : i+1]})
			i++
			continue
		}
		if strings.HasPrefix(s[i:], "$$") {
			l = append(l, part{text: "$"})
			i += 2
			continue
		}
		name := longestName(s[i+1:])
		if name == "" || len(name) > 20 {
			return nil, i, api.ErrForm
		}
		l = append(l, part{true, name})
		i += 1 + len(name)
	}
	return l, 0, api.OK
}

// longestName returns the longest beginning of s that is a name, whatever its size; it tries all of them.
func longestName(s string) string {
	found := ""
	for size := range len(s) + 1 {
		if isName(s[:size]) {
			found = s[:size]
		}
	}
	return found
}

func isName(s string) bool {
	return s != "" && strings.Contains(letters, s[:1]) && strings.Trim(s, letters+digits+"_") == ""
}

// slowNames is Names by the chapter's words alone.
func slowNames(s string) ([]string, int, api.Errno) {
	parts, at, e := slowCut(s)
	var names []string
	for _, p := range parts {
		if p.isVariable {
			names = append(names, p.text)
		}
	}
	return names, at, e
}

// slowFill is Fill by the chapter's words alone: it fills everything, then omits what is to be omitted, then looks how much it is.
func slowFill(s string, names, values []string) (string, api.Errno) {
	parts, _, e := slowCut(s)
	if e != api.OK {
		return "", api.ErrForm
	}
	var filled strings.Builder
	for _, p := range parts {
		if !p.isVariable {
			filled.WriteString(p.text)
			continue
		}
		i := 0
		for i < len(names) && names[i] != p.text {
			i++
		}
		if i == len(names) {
			return "", api.ErrName
		}
		if i < len(values) {
			filled.WriteString(values[i])
		}
	}
	line := strings.NewReplacer("\n", "", "\r", "", "\x15", "").Replace(filled.String())
	if len(line) > 200 {
		return "", api.ErrFull
	}
	return line, api.OK
}
