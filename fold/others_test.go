package fold_test

import (
	"math"
	"slices"
	"testing"

	"davit/api"
	"davit/fold"
	"davit/record"
)

// numbers yields the same numbers in every test run.
type numbers uint64

func (n *numbers) below(most int) int {
	*n = *n*6364136223846793005 + 1442695040888963407
	return int(uint32(*n>>33)) % most
}

// rarely reports true once in so many times.
func (n *numbers) rarely(times int) bool {
	return n.below(times) == 0
}

// one returns one of some numbers.
func (n *numbers) one(l ...int) int {
	return l[n.below(len(l))]
}

// any returns any number, mostly one that is not far from 0.
func (n *numbers) any() int {
	switch n.below(6) {
	case 0:
		return n.one(math.MinInt, math.MinInt+1, math.MaxInt-1, math.MaxInt)
	case 1:
		return n.one(29, 30, 100, 1000, 1001, 1002, 1<<31-1, 1<<31, 1<<32, 1<<32+1, -256, -1<<31, -1<<32)
	}
	return n.below(14) - 5
}

func (n *numbers) text(size int) []byte {
	if size == 0 && n.rarely(2) {
		return nil
	}
	b := make([]byte, size)
	for i := range b {
		b[i] = byte(n.below(256))
	}
	return b
}

// value returns a text that a variable may have.
func (n *numbers) value() []byte {
	return n.text(n.one(0, 0, 1, 2, 30, 99, 100))
}

// book returns a book as a runbook may be compiled to.
func (n *numbers) book() api.Book {
	b := api.Book{Most: n.one(1, 2, 3, 5, 20, 300, 1000), Vars: make([]string, n.one(0, 1, 2, 3, 8))}
	count := n.one(1, 2, 3, 5, 30)
	for range count {
		p := api.Step{Tag: n.below(3), Try: n.below(6), Time: 1, Else: n.below(count+3) - 3}
		for range n.below(7) {
			p.Arms = append(p.Arms, api.Arm{To: n.below(count+3) - 3, Var: n.below(len(b.Vars)+1) - 1})
		}
		b.Steps = append(b.Steps, p)
	}
	return b
}

// anyBook returns a book of any fields.
func (n *numbers) anyBook() api.Book {
	b := n.book()
	for range n.below(4) {
		i := n.below(max(len(b.Steps), 1))
		switch n.below(8) {
		case 0:
			b.Most = n.any()
		case 1:
			b.Vars = make([]string, n.below(12))
		case 2:
			b.Steps = slices.Repeat(b.Steps, 2)
		case 3:
			b.Steps = b.Steps[:n.below(2)*len(b.Steps)]
		case 4, 5:
			if len(b.Steps) > 0 {
				b.Steps[i%len(b.Steps)].Try = n.any()
			}
		case 6:
			if len(b.Steps) > 0 {
				b.Steps[i%len(b.Steps)].Else = n.any()
			}
		case 7:
			if len(b.Steps) > 0 {
				p := &b.Steps[i%len(b.Steps)]
				p.Arms = append(p.Arms, api.Arm{To: n.any(), Var: n.any()})
			}
		}
	}
	return b
}

// state returns a state that is mostly valid, and whose run mostly goes on, if the book has such states.
func (n *numbers) state(b api.Book) api.State {
	s := api.State{Step: n.one(places(b)...), Visit: 1, Offset: n.one(0, 1, 5, 1000, math.MaxInt32-1, math.MaxInt32)}
	if s.Step < 0 && n.rarely(2) {
		s.Step = n.one(places(b)...)
	}
	if b.Most > 1 {
		s.Visit = n.one(1, 2, 1+n.below(b.Most), 1+n.below(min(b.Most, 1001)), b.Most)
	}
	if try := stepOf(b, s).Try; s.Step >= 0 && try >= 0 {
		s.Tries = n.below(min(try, 7) + 2)
	}
	for range b.Vars {
		s.Vars = append(s.Vars, n.value())
	}
	return s
}

// disturbState sets a part of a state to anything.
func (n *numbers) disturbState(b api.Book, s *api.State) {
	switch n.below(6) {
	case 0:
		s.Step = n.one(n.any(), len(b.Steps), -4, n.below(len(b.Steps)+3)-3)
	case 1:
		s.Visit = n.one(n.any(), b.Most, b.Most+1, s.Visit+1)
	case 2:
		s.Tries = n.one(n.any(), stepOf(b, *s).Try+2, s.Tries+1, 0, -1)
	case 3:
		s.Offset = n.one(n.any(), s.Offset+1)
	case 4:
		s.Vars = append(s.Vars, n.text(n.below(110)))
	case 5:
		s.Vars = slices.Clone(s.Vars[:n.below(len(s.Vars)+1)])
		for i := range s.Vars {
			s.Vars[i] = n.text(n.one(0, 100, 100, 100, 101))
		}
	}
}

// record returns a record that can follow a valid state, if one can, and any other one if not.
func (n *numbers) record(b api.Book, s api.State) record.Rec {
	l := followers(b, s)
	if len(l) == 0 {
		return n.anyRecord(b, s)
	}
	return l[n.below(len(l))]
}

// anyRecord returns a record whose fields are mostly those of the state.
func (n *numbers) anyRecord(b api.Book, s api.State) record.Rec {
	switch kind := n.below(5); kind {
	case 1:
		return point(n.state(b))
	case 2:
		return intent(n.one(s.Visit, n.any()), n.one(s.Step, n.any()), n.one(s.Tries, n.any()))
	case 3:
		r := outcome(n.one(s.Visit, n.any()), n.one(places(b)...), n.one(s.Offset, s.Offset+1, n.any()), n.below(len(b.Vars)+3)-2, "")
		if r.Var >= 0 {
			r.Value = n.value()
		}
		return r
	default:
		return record.Rec{Kind: n.one(kind, n.any()), S: s, Visit: s.Visit, Step: s.Step, Try: s.Tries, To: s.Step, Offset: s.Offset, Var: n.any(), Value: n.value()}
	}
}

// disturbRecord sets a part of a record to anything.
func (n *numbers) disturbRecord(b api.Book, r *record.Rec) {
	switch n.below(9) {
	case 0:
		r.Kind = n.one(n.any(), 1, 2, 3)
	case 1:
		r.Visit = n.one(n.any(), r.Visit+1, r.Visit-1)
	case 2:
		r.Step = n.one(n.any(), r.Step+1, r.Step-1)
	case 3:
		r.Try = n.one(n.any(), r.Try+1, r.Try-1)
	case 4:
		r.To = n.one(append(places(b), n.any())...)
	case 5:
		r.Offset = n.one(n.any(), r.Offset+1, r.Offset-1)
	case 6:
		r.Var = n.one(n.any(), -1, n.below(len(b.Vars)+2))
	case 7:
		r.Value = n.text(n.one(0, 1, 100, 101))
	case 8:
		r.S.Visit = n.below(2)
	}
}

// isOften fails if a thing was seen too rarely.
func isOften(t *testing.T, times, least int, what string) {
	t.Helper()
	if times < least {
		t.Errorf("only %d %s", times, what)
	}
}

func TestAnyStates(t *testing.T) {
	n := numbers(1)
	seen := map[bool]int{}
	alone := map[string]int{}
	for range 100000 {
		b := n.book()
		if n.rarely(2) {
			b = n.anyBook()
		}
		s := n.state(b)
		seen[judges(t, b, s)]++
		n.disturbState(b, &s)
		seen[judges(t, b, s)]++
		if l := stateFaults(b, s); len(l) == 1 {
			alone[l[0]]++
		}
		if start := fold.Start(b); !same(start, slowStart(b)) {
			t.Fatalf("Start(%s): %s", told(b), shown(start))
		}
	}
	isOften(t, seen[true], 50000, "valid states")
	isOften(t, seen[false], 50000, "other states")
	for _, what := range []string{
		"the step of the state", "the visit of the state", "the tries of the state", "the offset of the state",
		"the number of variables of the state", "the size of a variable of the state",
	} {
		isOften(t, alone[what], 1000, "states with a fault of "+what+" alone")
	}
}

func TestAnyRecords(t *testing.T) {
	n := numbers(2)
	seen := map[api.Errno]int{}
	alone := map[string]int{}
	ask := func(b api.Book, s api.State, r record.Rec) {
		_, e := follows(t, b, s, r)
		seen[e]++
		if l := recordFaults(b, s, r); len(l) == 1 {
			alone[l[0]]++
		}
	}
	for range 100000 {
		b := n.book()
		if n.rarely(2) {
			b = n.anyBook()
		}
		s := n.state(b)
		r := n.record(b, s)
		ask(b, s, r)
		other := r
		for range 1 + n.below(2) {
			n.disturbRecord(b, &other)
		}
		ask(b, s, other)
		n.disturbState(b, &s)
		ask(b, s, r)
		ask(b, s, n.anyRecord(b, s))
	}
	isOften(t, seen[api.OK], 50000, "records that can follow")
	isOften(t, seen[api.ErrTorn], 50000, "records that can't")
	for _, what := range []string{
		"the step of the state", "the visit of the state", "the tries of the state", "the offset of the state",
		"the number of variables of the state", "the size of a variable of the state",
		"a valid record", "a kind that can follow",
		"the visit of the intent", "the step of the intent", "the try of the intent", "a try that the step has",
		"the visit of the outcome", "an intent before the outcome", "the target of the outcome", "the variable of the outcome", "a way to leave the step",
	} {
		isOften(t, alone[what], 20, "records that can't follow for the want of "+what+" alone")
	}
}

// What the chapter lets follow does follow, if it is a valid record: nothing more is asked.
func TestAllFollowers(t *testing.T) {
	n := numbers(3)
	seen := 0
	for range 3000 {
		b := n.book()
		s := n.state(b)
		for _, r := range followers(b, s) {
			can(t, b, s, r, record.May(r))
			seen++
		}
	}
	isOften(t, seen, 20000, "followers")
}

// All states and records of small fields.
func TestSmallStatesAndRecords(t *testing.T) {
	b := api.Book{Most: 3, Vars: []string{"v", "w"}, Steps: []api.Step{
		{Try: 1, Else: 1, Arms: []api.Arm{{Var: 0, To: 1}, {Var: -1, To: -1}}},
		{Try: 0, Else: -3, Arms: []api.Arm{{Var: 1, To: 0}}},
	}}
	for step := -4; step <= 2; step++ {
		for visit := 0; visit <= 5; visit++ {
			for tries := -1; tries <= 3; tries++ {
				s := api.State{Step: step, Visit: visit, Tries: tries, Offset: 1, Vars: texts("a", "b")}
				judges(t, b, s)
				smallRecords(t, b, s)
			}
		}
	}
}

func smallRecords(t *testing.T, b api.Book, s api.State) {
	t.Helper()
	for visit := 0; visit <= 5; visit++ {
		for place := -4; place <= 3; place++ {
			for x := -2; x <= 3; x++ {
				follows(t, b, s, intent(visit, place, x))
				follows(t, b, s, outcome(visit, place, 0, x, ""))
				follows(t, b, s, outcome(visit, place, 1, x, ""))
				follows(t, b, s, outcome(visit, place, 2, x, ""))
				follows(t, b, s, outcome(visit, place, 2, x, "c"))
			}
		}
	}
}

// The books of all kinds, with states about the ends of their ranges, and the records that are near to those that can follow them.
func TestBooks(t *testing.T) {
	n := numbers(15)
	seen := map[api.Errno]int{}
	for _, b := range books() {
		for _, step := range append(places(b), -4, len(b.Steps), len(b.Steps)+1) {
			s := api.State{Step: step, Offset: 5, Vars: make([][]byte, len(b.Vars))}
			try := stepOf(b, s).Try
			for _, visit := range []int{0, 1, 2, b.Most - 1, b.Most, b.Most + 1, b.Most + 2} {
				for _, tries := range []int{-1, 0, 1, try, try + 1, try + 2} {
					s.Visit, s.Tries = visit, tries
					judges(t, b, s)
					for range 5 {
						r := n.record(b, s)
						_, e := follows(t, b, s, r)
						seen[e]++
						n.disturbRecord(b, &r)
						follows(t, b, s, r)
					}
				}
			}
		}
	}
	isOften(t, seen[api.OK], 5000, "records that can follow")
	isOften(t, seen[api.ErrTorn], 5000, "records that can't")
}

// Arguments of the greatest sizes that are ordinary to write down.
func TestLongArguments(t *testing.T) {
	vars := make([][]byte, 1000000)
	b := api.Book{Most: 3, Vars: make([]string, 1000000), Steps: make([]api.Step, 1000000)}
	s := api.State{Step: 999999, Visit: 1, Vars: vars}
	is(t, b, s, true)
	is(t, b, api.State{Step: 1000000, Visit: 1, Vars: vars}, false)
	is(t, ordinary(), s, false)
	s.Tries = 1
	leads(t, b, s, outcome(1, api.Fail, 0, -1, ""), api.State{Step: api.Fail, Visit: 2, Vars: vars})
	torn(t, ordinary(), s, outcome(1, api.Fail, 0, -1, ""))
	torn(t, b, s, record.Rec{Kind: record.Outcome, Visit: 1, To: api.Fail, Value: make([]byte, 3000000)})
	b.Steps[999999].Arms = make([]api.Arm, 1000000)
	can(t, b, s, outcome(1, 0, 7, 0, "x"), true)
	can(t, b, s, outcome(1, 0, 7, -1, ""), false)
	if s, e := folds(t, b, make([][]byte, 1000000)); e != api.ErrTorn {
		t.Errorf("All: %s, error %d", shown(s), e)
	}
	if s, e := folds(t, b, [][]byte{make([]byte, 3000000)}); e != api.ErrTorn {
		t.Errorf("All: %s, error %d", shown(s), e)
	}
}
