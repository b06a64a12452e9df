package runbook

import "davit/lex"

// isNext reports whether a token of this Kind comes next.
func (p *parser) isNext(kind int) bool {
	return len(p.rest) > 0 && p.rest[0].Kind == kind
}

// take takes the next token, which must exist.
func (p *parser) take() lex.Token {
	t := p.rest[0]
	p.rest = p.rest[1:]
	p.at = t.At
	return t
}

// hasWord takes this word of the form if it comes next, and reports whether it did.
func (p *parser) hasWord(word string) bool {
	if !p.isNext(lex.Word) || string(p.rest[0].Text) != word {
		return false
	}
	p.take()
	return true
}

// word takes any Word, and stores it.
func (p *parser) word(to *string) bool {
	if !p.isNext(lex.Word) {
		return false
	}
	*to = string(p.take().Text)
	return true
}

// number takes any Number, and stores its value.
func (p *parser) number(to *int) bool {
	if !p.isNext(lex.Number) {
		return false
	}
	*to = p.take().N
	return true
}

// text takes any Text, and stores its bytes.
func (p *parser) text(to *[]byte) bool {
	if !p.isNext(lex.Text) {
		return false
	}
	*to = p.take().Text
	return true
}

// reached returns where the next token begins, or end if there is none.
func (p *parser) reached(end int) int {
	if len(p.rest) == 0 {
		return end
	}
	return p.rest[0].At
}
