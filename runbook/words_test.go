package runbook_test

import (
	"slices"
	"strings"

	"davit/api"
	"davit/lex"
	"davit/runbook"
)

// The form of runbooks, as the chapter writes it.
const (
	bookForm = `[ "most" Number ] { step }`
	stepForm = `"step" Word [ "once" | "idem" ] [ "send" Text ] { arm } "within" Number [ "tries" Number ] "else" Word "end"`
	armForm  = `"on" Text [ "as" Word ] "go" Word`
)

// turn is a token of the form that may come next, and the form of what may come behind it.
type turn struct {
	token, rest string
}

// turns is what can be done with a form: take a token, by one of these turns, or end.
type turns struct {
	next []turn
	ends bool
}

// reader knows the turns of the forms that it has met.
type reader map[string]turns

// turns returns the turns of a form, by the meaning of its signs alone.
func (r reader) turns(form string) turns {
	if t, ok := r[form]; ok {
		return t
	}
	var t turns
	first, rest, _ := strings.Cut(form, " ")
	switch first {
	case "":
		t.ends = true
	case "step":
		t = r.turns(join(stepForm, rest))
	case "arm":
		t = r.turns(join(armForm, rest))
	case "[":
		inner, rest, _ := strings.Cut(rest, " ]")
		t = r.turns(strings.TrimSpace(rest))
		for _, one := range strings.Split(inner, " | ") {
			t = t.or(r.turns(join(one, strings.TrimSpace(rest))))
		}
	case "{":
		inner, rest, _ := strings.Cut(rest, " }")
		t = r.turns(strings.TrimSpace(rest)).or(r.turns(join(inner, form)))
	default:
		t.next = []turn{{first, rest}}
	}
	r[form] = t
	return t
}

func join(form, rest string) string {
	return strings.TrimSpace(form + " " + rest)
}

func (t turns) or(u turns) turns {
	return turns{slices.Concat(t.next, u.next), t.ends || u.ends}
}

// is reports whether a token is one of these tokens of the form.
func is(t lex.Token, token string) bool {
	switch token {
	case "Word":
		return t.Kind == lex.Word
	case "Number":
		return t.Kind == lex.Number
	case "Text":
		return t.Kind == lex.Text
	}
	return t.Kind == lex.Word && `"`+string(t.Text)+`"` == token
}

// path is one way to read tokens by the form: the tokens of the form that they are, and the form of what may follow.
type path struct {
	tokens []string
	rest   string
}

// on returns the paths on which the tokens are the beginning of a runbook with t behind those of the paths; without any, they are the beginning of none.
func (r reader) on(paths []path, t lex.Token) []path {
	var l []path
	for _, p := range paths {
		for _, next := range r.turns(p.rest).next {
			if is(t, next.token) {
				l = append(l, path{append(slices.Clone(p.tokens), next.token), next.rest})
			}
		}
	}
	return l
}

// slowParse is Parse by the chapter's words alone.
func (r reader) slowParse(s []byte) (runbook.Book, int, api.Errno) {
	tokens, wrong, e := lex.Cut(s)
	if e != api.OK {
		return runbook.Book{}, wrong, e
	}
	paths := []path{{nil, bookForm}}
	for _, t := range tokens {
		paths = r.on(paths, t)
		if len(paths) == 0 {
			return runbook.Book{}, t.At, api.ErrForm
		}
	}
	paths = slices.DeleteFunc(paths, func(p path) bool { return !r.turns(p.rest).ends })
	switch len(paths) {
	case 0:
		return runbook.Book{}, len(s), api.ErrForm
	case 1:
		return made(tokens, paths[0].tokens), 0, api.OK
	}
	panic("more than one way to read " + string(s))
}

// made returns the book of tokens, each of which is one of the form: a word of the form says what the token behind it is.
func made(tokens []lex.Token, form []string) runbook.Book {
	b := runbook.Book{Most: 100}
	for i, t := range tokens {
		if i+1 == len(tokens) {
			break
		}
		behind := tokens[i+1]
		switch form[i] {
		case `"most"`:
			b.Most = behind.N
		case `"step"`:
			b.Steps = append(b.Steps, runbook.Step{At: t.At, Name: string(behind.Text)})
		}
		if len(b.Steps) > 0 {
			setPart(&b.Steps[len(b.Steps)-1], form[i], t.At, behind)
		}
	}
	return b
}

func setPart(step *runbook.Step, word string, at int, behind lex.Token) {
	switch word {
	case `"once"`:
		step.Tag = 1
	case `"idem"`:
		step.Tag = 2
	case `"send"`:
		step.Sends, step.Send = true, behind.Text
	case `"on"`:
		step.Arms = append(step.Arms, runbook.Arm{At: at, Pattern: behind.Text})
	case `"as"`:
		step.Arms[len(step.Arms)-1].As = string(behind.Text)
	case `"go"`:
		step.Arms[len(step.Arms)-1].Go = string(behind.Text)
	case `"within"`:
		step.Time = behind.N
	case `"tries"`:
		step.Try = behind.N
	case `"else"`:
		step.Else = string(behind.Text)
	}
}
