package check

import (
	"bytes"

	"davit/api"
	"davit/runbook"
)

// compiled returns a book that violates no condition, compiled.
func (n *names) compiled(b runbook.Book) api.Book {
	c := api.Book{Vars: n.inOrder, Most: b.Most}
	for _, s := range b.Steps {
		c.Steps = append(c.Steps, n.compiledStep(s))
	}
	return c
}

func (n *names) compiledStep(s runbook.Step) api.Step {
	to, _ := n.target(s.Else)
	c := api.Step{Name: s.Name, Tag: s.Tag, Send: bytes.Clone(s.Send), Time: s.Time, Try: s.Try, Else: to}
	for _, a := range s.Arms {
		c.Arms = append(c.Arms, n.compiledArm(a))
	}
	return c
}

func (n *names) compiledArm(a runbook.Arm) api.Arm {
	to, _ := n.target(a.Go)
	return api.Arm{Pattern: bytes.Clone(a.Pattern), Var: n.variable(a.As), To: to}
}
