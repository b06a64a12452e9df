package runbook

import (
	"davit/api"
	"davit/lex"
)

// parser takes the tokens of a runbook, from the first one on. What comes next is decided by one token alone; so the first token that it can't take is the first one with which the tokens are not the beginning of any runbook.
type parser struct {
	rest []lex.Token // those that are not yet taken
	at   int         // where the token begins that was taken last
	book Book
	step Step // the one that is being taken
	arm  Arm  // the one that is being taken
}

// part takes the tokens of a part of the form, and reports whether it found all of them.
type part func() bool

func inOrder(parts ...part) bool {
	for _, take := range parts {
		if !take() {
			return false
		}
	}
	return true
}

// maybe takes a word and the part behind it, if the word comes next.
func (p *parser) maybe(word string, behind part) bool {
	return !p.hasWord(word) || behind()
}

// many takes a word and the parts behind it, as long as the word comes next.
func (p *parser) many(word string, behind ...part) bool {
	for p.hasWord(word) {
		if !inOrder(behind...) {
			return false
		}
	}
	return true
}

// takeBook takes as many tokens as it can, from the first one on.
func (p *parser) takeBook() bool {
	return inOrder(p.takeLimit, p.takeSteps)
}

func (p *parser) takeLimit() bool {
	return p.maybe("most", p.takeMost)
}

func (p *parser) takeSteps() bool {
	return p.many("step", p.beginStep, p.takeName, p.takeTag, p.takeSend, p.takeArms, p.takeTime, p.takeTries, p.takeElse, p.endStep)
}

func (p *parser) takeMost() bool {
	return p.number(&p.book.Most)
}

func (p *parser) beginStep() bool {
	p.step = Step{At: p.at}
	return true
}

func (p *parser) takeName() bool {
	return p.word(&p.step.Name)
}

func (p *parser) takeTag() bool {
	switch {
	case p.hasWord("once"):
		p.step.Tag = api.Once
	case p.hasWord("idem"):
		p.step.Tag = api.Idem
	}
	return true
}

func (p *parser) takeSend() bool {
	return p.maybe("send", p.takeLine)
}

func (p *parser) takeLine() bool {
	p.step.Sends = true
	return p.text(&p.step.Send)
}

func (p *parser) takeArms() bool {
	return p.many("on", p.beginArm, p.takePattern, p.takeAs, p.takeGo, p.endArm)
}

func (p *parser) beginArm() bool {
	p.arm = Arm{At: p.at}
	return true
}

func (p *parser) takePattern() bool {
	return p.text(&p.arm.Pattern)
}

func (p *parser) takeAs() bool {
	return p.maybe("as", p.takeVariable)
}

func (p *parser) takeVariable() bool {
	return p.word(&p.arm.As)
}

func (p *parser) takeGo() bool {
	return p.hasWord("go") && p.word(&p.arm.Go)
}

func (p *parser) endArm() bool {
	p.step.Arms = append(p.step.Arms, p.arm)
	return true
}

func (p *parser) takeTime() bool {
	return p.hasWord("within") && p.number(&p.step.Time)
}

func (p *parser) takeTries() bool {
	return p.maybe("tries", p.takeTry)
}

func (p *parser) takeTry() bool {
	return p.number(&p.step.Try)
}

func (p *parser) takeElse() bool {
	return p.hasWord("else") && p.word(&p.step.Else)
}

func (p *parser) endStep() bool {
	if !p.hasWord("end") {
		return false
	}
	p.book.Steps = append(p.book.Steps, p.step)
	return true
}
