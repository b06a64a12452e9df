package check

import (
	"davit/api"
	"davit/runbook"
)

// names are those that a book gives to its steps and to its variables, also where it has more of them than it may have.
type names struct {
	steps     map[string]int // the index of the first step of each name
	variables map[string]int // the index of each variable
	inOrder   []string       // the variables, by their indices
}

func namesOf(steps []runbook.Step) *names {
	n := &names{steps: map[string]int{}, variables: map[string]int{}}
	for i, s := range steps {
		if _, ok := n.steps[s.Name]; !ok {
			n.steps[s.Name] = i
		}
		for _, a := range s.Arms {
			n.addVariable(a.As)
		}
	}
	return n
}

func (n *names) addVariable(name string) {
	if name == "" || n.isVariable(name) {
		return
	}
	n.variables[name] = len(n.inOrder)
	n.inOrder = append(n.inOrder, name)
}

func (n *names) isVariable(name string) bool {
	_, ok := n.variables[name]
	return ok
}

// variable returns the index of the variable of an arm; -1 for an empty name, which stands for none.
func (n *names) variable(as string) int {
	if as == "" {
		return -1
	}
	return n.variables[as]
}

// isTaken reports whether a name has a meaning ahead of the step with the index i.
func (n *names) isTaken(name string, i int) bool {
	_, isEnd := end(name)
	return isEnd || n.steps[name] < i
}

// target returns where a word leads; false if it is no target.
func (n *names) target(word string) (int, bool) {
	if to, ok := end(word); ok {
		return to, true
	}
	i, ok := n.steps[word]
	return i, ok
}

func (n *names) isTarget(word string) bool {
	_, ok := n.target(word)
	return ok
}

// end returns the number of a word with which a run ends; false for any other word.
func end(word string) (int, bool) {
	switch word {
	case "done":
		return api.Done, true
	case "fail":
		return api.Fail, true
	case "doubt":
		return api.Doubt, true
	}
	return 0, false
}
