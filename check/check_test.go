package check_test

import (
	"bytes"
	"fmt"
	"math"
	"slices"
	"strings"
	"testing"

	"davit/api"
	"davit/check"
	"davit/nfa"
	"davit/regex"
	"davit/runbook"
	"davit/vars"
)

// The call has exactly this signature.
var _ func(runbook.Book) (api.Book, int, api.Errno) = check.Compile

// shown tells of a book in a message.
func shown(b runbook.Book) string {
	s := fmt.Sprintf("most %d;", b.Most)
	for _, p := range b.Steps {
		s += fmt.Sprintf(" at %d step %.50q tag %d sends %v %.300q", p.At, p.Name, p.Tag, p.Sends, p.Send)
		for _, a := range p.Arms {
			s += fmt.Sprintf(" at %d on %.100q as %.50q go %.50q", a.At, a.Pattern, a.As, a.Go)
		}
		s += fmt.Sprintf(" within %d tries %d else %.50q;", p.Time, p.Try, p.Else)
	}
	return shortened(s)
}

// told tells of a compiled book in a message.
func told(c api.Book) string {
	s := fmt.Sprintf("most %d, variables %.300q;", c.Most, c.Vars)
	for _, p := range c.Steps {
		s += fmt.Sprintf(" step %.50q tag %d sends %.300q", p.Name, p.Tag, p.Send)
		for _, a := range p.Arms {
			s += fmt.Sprintf(" on %.100q as %d to %d", a.Pattern, a.Var, a.To)
		}
		s += fmt.Sprintf(" within %d tries %d else %d;", p.Time, p.Try, p.Else)
	}
	return shortened(s)
}

func shortened(s string) string {
	if len(s) > 3000 {
		return s[:3000] + " .."
	}
	return s
}

func sameArm(a, b api.Arm) bool {
	return bytes.Equal(a.Pattern, b.Pattern) && a.Var == b.Var && a.To == b.To
}

func sameStep(a, b api.Step) bool {
	return a.Name == b.Name && a.Tag == b.Tag && bytes.Equal(a.Send, b.Send) && slices.EqualFunc(a.Arms, b.Arms, sameArm) &&
		a.Time == b.Time && a.Try == b.Try && a.Else == b.Else
}

func same(a, b api.Book) bool {
	return slices.EqualFunc(a.Steps, b.Steps, sameStep) && slices.Equal(a.Vars, b.Vars) && a.Most == b.Most
}

// leadsSomewhere checks P14.2.
func leadsSomewhere(t *testing.T, c api.Book) {
	t.Helper()
	isTarget := func(to int) bool {
		return to >= 0 && to < len(c.Steps) || to == api.Done || to == api.Fail || to == api.Doubt
	}
	for i, s := range c.Steps {
		if !isTarget(s.Else) {
			t.Fatalf("the step %d leads to %d: %s", i, s.Else, told(c))
		}
		for j, a := range s.Arms {
			if !isTarget(a.To) || a.Var < -1 || a.Var >= len(c.Vars) {
				t.Fatalf("the arm %d of the step %d leads to %d and has the variable %d: %s", j, i, a.To, a.Var, told(c))
			}
		}
	}
}

// yields checks that b is compiled as want.
func yields(t *testing.T, b runbook.Book, want api.Book) {
	t.Helper()
	c, place, e := check.Compile(b)
	if e != api.OK || place != 0 || !same(c, want) {
		t.Fatalf("Compile(%s): %s, %d, error %d, not %s", shown(b), told(c), place, e, told(want))
	}
	leadsSomewhere(t, c)
}

// fails checks that Compile returns this error at this place, and no book.
func fails(t *testing.T, b runbook.Book, place int, want api.Errno) {
	t.Helper()
	c, at, e := check.Compile(b)
	if e != want || at != place || len(c.Steps) != 0 || len(c.Vars) != 0 || c.Most != 0 {
		t.Fatalf("Compile(%s): %s, %d, error %d, not error %d at %d", shown(b), told(c), at, e, want, place)
	}
}

// agrees checks Compile against the second one; it returns the error that both return.
func agrees(t *testing.T, b runbook.Book) api.Errno {
	t.Helper()
	c, place, e := slowCompile(b)
	if e != api.OK {
		fails(t, b, place, e)
	} else {
		yields(t, b, c)
	}
	return e
}

// returns checks that Compile, and the second one, returns this error, at the place if it is one.
func returns(t *testing.T, b runbook.Book, place int, want api.Errno) {
	t.Helper()
	if e := agrees(t, b); e != want {
		t.Fatalf("Compile(%s): error %d, not %d", shown(b), e, want)
	}
	if want != api.OK {
		fails(t, b, place, want)
	}
}

// errorIf returns e if something is so, and OK otherwise.
func errorIf(is bool, e api.Errno) api.Errno {
	if is {
		return e
	}
	return api.OK
}

// parsed returns the book of a text, which must be a runbook.
func parsed(t *testing.T, s string) runbook.Book {
	t.Helper()
	b, place, e := runbook.Parse([]byte(s))
	if e != api.OK {
		t.Fatalf("Parse(%q): %d, error %d", s, place, e)
	}
	return b
}

// ordinary returns a book that violates nothing, with a step of each tag, which all have two arms.
func ordinary() runbook.Book {
	return runbook.Book{Most: 100, Steps: []runbook.Step{
		{At: 11, Name: "a", Tag: api.Once, Sends: true, Send: []byte("hi $v"), Time: 5, Else: "doubt", Arms: []runbook.Arm{
			{At: 22, Pattern: []byte("x"), As: "v", Go: "b"}, {At: 33, Pattern: []byte("y*"), Go: "done"}}},
		{At: 44, Name: "b", Tag: api.Idem, Sends: true, Send: []byte("$w$$"), Time: 7, Try: 2, Else: "a", Arms: []runbook.Arm{
			{At: 55, Pattern: []byte(`\d+`), As: "w", Go: "c"}, {At: 66, Pattern: nil, As: "v", Go: "fail"}}},
		{At: 77, Name: "c", Tag: api.Plain, Time: 9, Try: 1, Else: "fail", Arms: []runbook.Arm{
			{At: 88, Pattern: []byte("[^a-c]|z"), Go: "c"}, {At: 99, Pattern: []byte("."), As: "u", Go: "doubt"}}},
	}}
}

// changed returns the ordinary book with a change.
func changed(change func(b *runbook.Book)) runbook.Book {
	b := ordinary()
	change(&b)
	return b
}

// withStep returns the ordinary book with a change of the step i.
func withStep(i int, change func(s *runbook.Step)) runbook.Book {
	return changed(func(b *runbook.Book) { change(&b.Steps[i]) })
}

// withArm returns the ordinary book with a change of the arm j of the step i.
func withArm(i, j int, change func(a *runbook.Arm)) runbook.Book {
	return changed(func(b *runbook.Book) { change(&b.Steps[i].Arms[j]) })
}

func TestExample(t *testing.T) {
	b := parsed(t, `step a on "x" as v go a within 5 else fail end`)
	yields(t, b, api.Book{Most: 100, Vars: []string{"v"}, Steps: []api.Step{
		{Name: "a", Arms: []api.Arm{{Pattern: []byte("x"), Var: 0, To: 0}}, Time: 5, Else: api.Fail},
	}})
}

func TestOrdinaryBook(t *testing.T) {
	yields(t, ordinary(), api.Book{Most: 100, Vars: []string{"v", "w", "u"}, Steps: []api.Step{
		{Name: "a", Tag: api.Once, Send: []byte("hi $v"), Time: 5, Else: api.Doubt, Arms: []api.Arm{
			{Pattern: []byte("x"), Var: 0, To: 1}, {Pattern: []byte("y*"), Var: -1, To: api.Done}}},
		{Name: "b", Tag: api.Idem, Send: []byte("$w$$"), Time: 7, Try: 2, Else: 0, Arms: []api.Arm{
			{Pattern: []byte(`\d+`), Var: 1, To: 2}, {Var: 0, To: api.Fail}}},
		{Name: "c", Tag: api.Plain, Time: 9, Try: 1, Else: api.Fail, Arms: []api.Arm{
			{Pattern: []byte("[^a-c]|z"), Var: -1, To: 2}, {Pattern: []byte("."), Var: 2, To: api.Doubt}}},
	}})
	returns(t, ordinary(), 0, api.OK)
}

func TestOrdinaryText(t *testing.T) {
	b := parsed(t, `most 9
step login idem send "root" # no variable
	on "Pass(word)?:" go pass
	on "Welcome, (\w+)" as who go run
	within 10 tries 3 else fail
end
step pass idem send "$who$$" on "ok" as ok go run on "no" as who go login within 100 else login end
step run once send "reboot" within 1 else doubt end
step wait on "" go done within 5 tries 5 else wait end`)
	yields(t, b, api.Book{Most: 9, Vars: []string{"who", "ok"}, Steps: []api.Step{
		{Name: "login", Tag: api.Idem, Send: []byte("root"), Time: 10, Try: 3, Else: api.Fail, Arms: []api.Arm{
			{Pattern: []byte("Pass(word)?:"), Var: -1, To: 1}, {Pattern: []byte(`Welcome, (\w+)`), Var: 0, To: 2}}},
		{Name: "pass", Tag: api.Idem, Send: []byte("$who$$"), Time: 100, Else: 0, Arms: []api.Arm{
			{Pattern: []byte("ok"), Var: 1, To: 2}, {Pattern: []byte("no"), Var: 0, To: 0}}},
		{Name: "run", Tag: api.Once, Send: []byte("reboot"), Time: 1, Else: api.Doubt},
		{Name: "wait", Time: 5, Try: 5, Else: 3, Arms: []api.Arm{{Var: -1, To: api.Done}}},
	}})
}

func TestNoSteps(t *testing.T) {
	for _, steps := range [][]runbook.Step{nil, {}, ordinary().Steps[:0]} {
		for _, most := range []int{math.MinInt, -1, 0, 1, 100, 1000, 1001, math.MaxInt} {
			returns(t, runbook.Book{Most: most, Steps: steps}, 0, api.ErrNone)
		}
	}
	returns(t, runbook.Book{}, 0, api.ErrNone)
	returns(t, parsed(t, ""), 0, api.ErrNone)
	returns(t, runbook.Book{Most: 1, Steps: []runbook.Step{{At: 5}}}, 5, api.ErrArg)
}

// anyNumbers returns those about zero and about the limits, and such as are far from them, also those whose lower 32 bits are not.
func anyNumbers() []int {
	l := []int{math.MinInt, math.MinInt + 1, math.MinInt32, math.MaxInt32, math.MaxInt - 1, math.MaxInt}
	for _, x := range []int{0, 100, 255, 1000, 65536, -1 << 32, 1 << 32, 1<<32 + 100} {
		for d := -7; d <= 7; d++ {
			l = append(l, x+d)
		}
	}
	return l
}

func TestMost(t *testing.T) {
	for _, most := range anyNumbers() {
		b := changed(func(b *runbook.Book) { b.Most = most })
		returns(t, b, 0, errorIf(most < 1 || most > 1000, api.ErrArg))
		if c, _, _ := check.Compile(b); most >= 1 && most <= 1000 && c.Most != most {
			t.Fatalf("Compile(%s): Most is %d", shown(b), c.Most)
		}
	}
	returns(t, parsed(t, "most 1 step a within 1 else a end"), 0, api.OK)
	returns(t, parsed(t, "most 1000 step a within 1 else a end"), 0, api.OK)
	returns(t, parsed(t, "most 1001 step a within 1 else a end"), 0, api.ErrArg)
	returns(t, parsed(t, " most 0 step a within 1 else a end"), 0, api.ErrArg)
}

func TestTagAndSends(t *testing.T) {
	for i := range 3 {
		for _, tag := range anyNumbers() {
			for _, sends := range []bool{false, true} {
				b := withStep(i, func(s *runbook.Step) { s.Tag, s.Sends, s.Try = tag, sends, 0 })
				isRight := tag == 0 && !sends || (tag == 1 || tag == 2) && sends
				returns(t, b, b.Steps[i].At, errorIf(!isRight, api.ErrArg))
			}
		}
	}
	for s, want := range map[string]api.Errno{
		`step a within 1 else a end`:               api.OK,
		`step a send "x" within 1 else a end`:      api.ErrArg,
		`step a once send "x" within 1 else a end`: api.OK,
		`step a once within 1 else a end`:          api.ErrArg,
		`step a idem send "" within 1 else a end`:  api.OK,
		`step a idem within 1 else a end`:          api.ErrArg,
	} {
		returns(t, parsed(t, s), 0, want)
	}
}

func TestTry(t *testing.T) {
	for i := range 3 {
		for _, try := range anyNumbers() {
			b := withStep(i, func(s *runbook.Step) { s.Try = try })
			most := 5
			if b.Steps[i].Tag == api.Once {
				most = 0
			}
			returns(t, b, b.Steps[i].At, errorIf(try < 0 || try > most, api.ErrArg))
		}
	}
}

func TestTime(t *testing.T) {
	for i := range 3 {
		for _, time := range anyNumbers() {
			b := withStep(i, func(s *runbook.Step) { s.Time = time })
			returns(t, b, b.Steps[i].At, errorIf(time < 1 || time > 100, api.ErrArg))
		}
	}
}

// named returns a book with these steps, which violates nothing if each name may stand there.
func named(names ...string) runbook.Book {
	b := runbook.Book{Most: 1}
	for i, name := range names {
		b.Steps = append(b.Steps, runbook.Step{At: 500 - i, Name: name, Time: 1, Else: "done"})
	}
	return b
}

func TestNamesOfSteps(t *testing.T) {
	for _, c := range []struct {
		names []string
		place int
		e     api.Errno
	}{
		{[]string{"a"}, 0, api.OK},
		{[]string{"a", "a"}, 499, api.ErrTwice},
		{[]string{"a", "b", "c"}, 0, api.OK},
		{[]string{"a", "b", "a"}, 498, api.ErrTwice},
		{[]string{"a", "b", "b"}, 498, api.ErrTwice},
		{[]string{"a", "a", "a"}, 499, api.ErrTwice},
		{[]string{"a", "b", "b", "a"}, 498, api.ErrTwice},
		{[]string{"a", "b", "c", "d", "b", "a"}, 496, api.ErrTwice},
		{[]string{"done"}, 500, api.ErrTwice},
		{[]string{"fail"}, 500, api.ErrTwice},
		{[]string{"doubt"}, 500, api.ErrTwice},
		{[]string{"a", "done"}, 499, api.ErrTwice},
		{[]string{"a", "fail", "a"}, 499, api.ErrTwice},
		{[]string{"a", "b", "doubt"}, 498, api.ErrTwice},
		{[]string{"doubt", "a", "a"}, 500, api.ErrTwice},
		{[]string{""}, 0, api.OK},
		{[]string{"", "a"}, 0, api.OK},
		{[]string{"", ""}, 499, api.ErrTwice},
		{[]string{"a", "", "b", ""}, 497, api.ErrTwice},
		{[]string{"Done", "DONE", "done ", " done", "don", "donee", "done\x00", "failed", "doubts", "-1", "step", "end"}, 0, api.OK},
		{[]string{"a", "A", "a ", "a\x00", "aa", "\xff", "\xff\xff", "é", "e\u0301"}, 0, api.OK},
		{[]string{"\xff", "\xfe", "\xff"}, 498, api.ErrTwice},
	} {
		returns(t, named(c.names...), c.place, c.e)
	}
	long := strings.Repeat("a", 100000)
	returns(t, named(long, long[1:]), 0, api.OK)
	returns(t, named(long, long[1:]+"a"), 499, api.ErrTwice)
}

// Any two steps with one name: the later one is wrong.
func TestEachPairOfNames(t *testing.T) {
	for size := 2; size <= 30; size++ {
		for i := range size {
			for j := range i {
				b := chain(size)
				b.Steps[i].Name = b.Steps[j].Name
				// The step ahead would lead nowhere.
				b.Steps[i-1].Else = "done"
				returns(t, b, b.Steps[i].At, api.ErrTwice)
			}
		}
	}
}

// chain returns a book with so many steps, each of which leads to the next one, and has an arm that leads to the one ahead; up to 30 of them violate nothing.
func chain(size int) runbook.Book {
	b := runbook.Book{Most: 1000}
	for i := range size {
		s := runbook.Step{At: 10 * (i + 1), Name: fmt.Sprintf("s%d", i), Time: 1 + i%100, Else: fmt.Sprintf("s%d", i+1)}
		if i+1 == size {
			s.Else = "done"
		}
		if i > 0 {
			s.Arms = []runbook.Arm{{At: 10*(i+1) + 5, Pattern: []byte("x"), Go: fmt.Sprintf("s%d", i-1)}}
		}
		b.Steps = append(b.Steps, s)
	}
	return b
}

func TestManySteps(t *testing.T) {
	for size := 1; size <= 40; size++ {
		returns(t, chain(size), 310, errorIf(size > 30, api.ErrFull))
	}
	returns(t, chain(1000), 310, api.ErrFull)
	fails(t, chain(100000), 310, api.ErrFull)
	c, _, _ := check.Compile(chain(30))
	for i, s := range c.Steps[:29] {
		if s.Else != i+1 || i > 0 && s.Arms[0].To != i-1 {
			t.Fatalf("the step %d leads to %d: %s", i, s.Else, told(c))
		}
	}
	if c.Steps[29].Else != api.Done {
		t.Fatalf("the last step leads to %d", c.Steps[29].Else)
	}
}

// A name counts also if the step or the arm with it is one too many, so an earlier step may have it.
func TestNamesBeyondTheLimits(t *testing.T) {
	b := chain(33)
	b.Steps[3].Else = "s32"
	returns(t, b, 310, api.ErrFull)
	b.Steps[3].Else = "s33"
	returns(t, b, 40, api.ErrName)

	b = ordinary()
	b.Steps[0].Send = []byte("$z")
	returns(t, b, 11, api.ErrName)
	for len(b.Steps[2].Arms) < 7 {
		b.Steps[2].Arms = append(b.Steps[2].Arms, runbook.Arm{At: 7, Go: "a"})
	}
	b.Steps[2].Arms[6].As = "z"
	returns(t, b, 7, api.ErrFull)

	b = chain(31)
	b.Steps[0].Tag, b.Steps[0].Sends, b.Steps[0].Send = api.Idem, true, []byte("$z")
	returns(t, b, 10, api.ErrName)
	b.Steps[30].Arms[0].As = "z"
	returns(t, b, 310, api.ErrFull)
}

func TestLine(t *testing.T) {
	for text, want := range map[string]api.Errno{
		"":                          api.OK,
		"reboot":                    api.OK,
		"$v":                        api.OK,
		"$v$w$u$v":                  api.OK,
		"$$":                        api.OK,
		"$$z":                       api.OK,
		"a\nb\r\x15\x00\xff":        api.OK,
		"$v\n":                      api.OK,
		strings.Repeat("x", 10000):  api.OK,
		strings.Repeat("$v", 10000): api.OK,

		"$":                              api.ErrForm,
		"a$":                             api.ErrForm,
		"$v$":                            api.ErrForm,
		"$$$":                            api.ErrForm,
		"$V":                             api.ErrForm,
		"$1":                             api.ErrForm,
		"$ v":                            api.ErrForm,
		"$\n":                            api.ErrForm,
		"$" + strings.Repeat("v", 21):    api.ErrForm,
		"$z$":                            api.ErrForm,
		"$z$z$V":                         api.ErrForm,
		strings.Repeat("$z", 5000) + "$": api.ErrForm,

		"$z":                              api.ErrName,
		"$vv":                             api.ErrName,
		"$v1":                             api.ErrName,
		"$v_":                             api.ErrName,
		"$v$z":                            api.ErrName,
		"$v $w $u $z":                     api.ErrName,
		"$z$v":                            api.ErrName,
		"$a":                              api.ErrName,
		"$done":                           api.ErrName,
		"$" + strings.Repeat("v", 20):     api.ErrName,
		strings.Repeat("$v", 5000) + "$z": api.ErrName,
	} {
		if _, _, e := vars.Names([]byte(text)); (e != api.OK) != (want == api.ErrForm) {
			t.Fatalf("Names(%.50q): error %d", text, e)
		}
		for i := range 3 {
			b := withStep(i, func(s *runbook.Step) { s.Send = []byte(text) })
			returns(t, b, b.Steps[i].At, want)
			// A step may send it or not, it is in the compiled book as it is.
			if c, _, e := check.Compile(b); e == api.OK && string(c.Steps[i].Send) != text {
				t.Fatalf("Compile(%s): the step %d sends %q", shown(b), i, c.Steps[i].Send)
			}
		}
	}
}

// A variable of the book may be one by any arm, of a step ahead, of the same one or of one behind.
func TestWhereVariablesAre(t *testing.T) {
	for i := range 3 {
		for j := range 3 {
			for k := range 2 {
				b := named("a", "b", "c")
				for s := range b.Steps {
					b.Steps[s].Arms = []runbook.Arm{{Go: "a"}, {Go: "done"}}
				}
				s, arm := &b.Steps[i], &b.Steps[j].Arms[k]
				s.Tag, s.Sends, s.Send = api.Idem, true, []byte("a$$b$new.")
				returns(t, b, s.At, api.ErrName)
				arm.As = "new"
				returns(t, b, 0, api.OK)
				arm.As = "news"
				returns(t, b, s.At, api.ErrName)
				// A line that is not sent must be as right as another one.
				s.Tag, s.Sends = api.Plain, false
				returns(t, b, s.At, api.ErrName)
				arm.As = "new"
				returns(t, b, 0, api.OK)
			}
		}
	}
	// The names of arms may be any texts; a line can have some of them only.
	b := withArm(2, 0, func(a *runbook.Arm) { a.As = "New" })
	b.Steps[0].Send = []byte("$v$New")
	returns(t, b, 11, api.ErrForm)
	b = withArm(2, 0, func(a *runbook.Arm) { a.As = "a b" })
	b.Steps[0].Send = []byte("$a b")
	returns(t, b, 11, api.ErrName)
}

// words are such as are targets of the ordinary book, and their numbers, and such as are none.
func words() (map[string]int, []string) {
	targets := map[string]int{"a": 0, "b": 1, "c": 2, "done": api.Done, "fail": api.Fail, "doubt": api.Doubt}
	others := []string{"", "d", "A", "aa", "a ", " a", "a\x00", "\x00", "ab", "Done", "FAIL", "doub", "doubtt", "done\n", "v", "w", "0", "-1", "step", "end", "x", "\xff", strings.Repeat("a", 10000)}
	return targets, others
}

func TestElse(t *testing.T) {
	targets, others := words()
	for i := range 3 {
		for word, want := range targets {
			b := withStep(i, func(s *runbook.Step) { s.Else = word })
			returns(t, b, 0, api.OK)
			if c, _, _ := check.Compile(b); c.Steps[i].Else != want {
				t.Fatalf("Compile(%s): the step %d has Else %d, not %d", shown(b), i, c.Steps[i].Else, want)
			}
		}
		for _, word := range others {
			b := withStep(i, func(s *runbook.Step) { s.Else = word })
			returns(t, b, b.Steps[i].At, api.ErrName)
		}
	}
}

func TestGo(t *testing.T) {
	targets, others := words()
	for i := range 3 {
		for j := range 2 {
			for word, want := range targets {
				b := withArm(i, j, func(a *runbook.Arm) { a.Go = word })
				returns(t, b, 0, api.OK)
				if c, _, _ := check.Compile(b); c.Steps[i].Arms[j].To != want {
					t.Fatalf("Compile(%s): the arm %d of the step %d has To %d, not %d", shown(b), j, i, c.Steps[i].Arms[j].To, want)
				}
			}
			for _, word := range others {
				b := withArm(i, j, func(a *runbook.Arm) { a.Go = word })
				returns(t, b, b.Steps[i].Arms[j].At, api.ErrName)
			}
		}
	}
}

// The empty word is a target if a step has this name.
func TestEmptyName(t *testing.T) {
	for i := range 3 {
		b := named("a", "b", "c")
		b.Steps[i].Name = ""
		for j := range 3 {
			b.Steps[j].Else = ""
			b.Steps[j].Arms = []runbook.Arm{{Go: ""}, {Go: "done"}}
		}
		returns(t, b, 0, api.OK)
		c, _, _ := check.Compile(b)
		for j, s := range c.Steps {
			if s.Else != i || s.Arms[0].To != i || s.Arms[1].To != api.Done || s.Arms[0].Var != -1 {
				t.Fatalf("Compile(%s): the step %d is not right: %s", shown(b), j, told(c))
			}
		}
	}
}

// Of several steps with one name the first one is meant; but the second one is wrong, so only what is ahead of it can be seen.
func TestTargetThatStandsTwice(t *testing.T) {
	b := named("a", "b", "b", "b")
	for i := range b.Steps {
		b.Steps[i].Else = "b"
	}
	returns(t, b, 498, api.ErrTwice)
	b.Steps[0].Arms = []runbook.Arm{{At: 3, Go: "b"}, {At: 4, Go: "c"}}
	returns(t, b, 4, api.ErrName)
	b.Steps[0].Arms = b.Steps[0].Arms[:1]
	returns(t, b, 498, api.ErrTwice)
	b.Steps[2].Name, b.Steps[3].Name = "c", "d"
	returns(t, b, 0, api.OK)
	if c, _, _ := check.Compile(b); c.Steps[0].Else != 1 || c.Steps[3].Else != 1 || c.Steps[0].Arms[0].To != 1 {
		t.Fatalf("Compile(%s): %s", shown(b), told(c))
	}
	// A step named as an end of a run is wrong, so what leads there leads to the end.
	b = named("a", "done", "b")
	b.Steps[0].Else = "done"
	returns(t, b, 499, api.ErrTwice)
}

func TestManyArms(t *testing.T) {
	for i := range 3 {
		for size := range 12 {
			b := withStep(i, func(s *runbook.Step) { s.Send = nil })
			b.Steps[0].Send, b.Steps[1].Send = nil, nil
			s := &b.Steps[i]
			s.Arms = nil
			for j := range size {
				s.Arms = append(s.Arms, runbook.Arm{At: 900 - j, Pattern: []byte{'a' + byte(j)}, Go: []string{"a", "b", "c", "done"}[j%4]})
			}
			returns(t, b, 894, errorIf(size > 6, api.ErrFull))
			if c, _, e := check.Compile(b); e == api.OK && len(c.Steps[i].Arms) != size {
				t.Fatalf("Compile(%s): %d arms", shown(b), len(c.Steps[i].Arms))
			}
		}
		b := withStep(i, func(s *runbook.Step) { s.Arms = append(s.Arms, make([]runbook.Arm, 100000)...) })
		for j := range b.Steps[i].Arms {
			b.Steps[i].Arms[j].At, b.Steps[i].Arms[j].Go = j, "a"
		}
		fails(t, b, 6, api.ErrFull)
	}
}

// Six arms in each of thirty steps are as many as there may be.
func TestFullBook(t *testing.T) {
	b := chain(30)
	for i := range b.Steps {
		b.Steps[i].Arms = nil
		for j := range 6 {
			b.Steps[i].Arms = append(b.Steps[i].Arms, runbook.Arm{Pattern: []byte("a|b"), As: fmt.Sprintf("v%d", (i+j)%8), Go: fmt.Sprintf("s%d", (7*i+5*j)%30)})
		}
	}
	returns(t, b, 0, api.OK)
	c, _, _ := check.Compile(b)
	if !slices.Equal(c.Vars, []string{"v0", "v1", "v2", "v3", "v4", "v5", "v6", "v7"}) {
		t.Fatalf("Compile(%s): the variables are %q", shown(b), c.Vars)
	}
	for i, s := range c.Steps {
		for j, a := range s.Arms {
			if a.Var != (i+j)%8 || a.To != (7*i+5*j)%30 {
				t.Fatalf("Compile(%s): the arm %d of the step %d is not right: %s", shown(b), j, i, told(c))
			}
		}
	}
}

func TestPatterns(t *testing.T) {
	for pattern, want := range map[string]api.Errno{
		"":                       api.OK,
		"|":                      api.OK,
		`(a|[^\]-a])*\d+.?`:      api.OK,
		"\x00\xff\n":             api.OK,
		strings.Repeat("a", 80):  api.OK,
		strings.Repeat("|", 80):  api.OK,
		strings.Repeat("a*", 40): api.OK,
		strings.Repeat("a+", 40): api.OK,
		strings.Repeat("a|", 40): api.OK,
		strings.Repeat("(", 8) + "a" + strings.Repeat(")", 8): api.OK,

		strings.Repeat("a", 81):    api.ErrFull,
		strings.Repeat("(", 81):    api.ErrFull,
		strings.Repeat("a", 10000): api.ErrFull,

		strings.Repeat("(", 9) + "a" + strings.Repeat(")", 9): api.ErrDeep,
		strings.Repeat("(", 80):                               api.ErrDeep,

		"(":           api.ErrForm,
		")":           api.ErrForm,
		"*":           api.ErrForm,
		"a**":         api.ErrForm,
		"[b-a]":       api.ErrForm,
		`\q`:          api.ErrForm,
		`a\`:          api.ErrForm,
		"((((((((]((": api.ErrForm,
	} {
		if _, _, e := regex.Parse([]byte(pattern)); e != want {
			t.Fatalf("Parse(%.100q): error %d", pattern, e)
		}
		for i := range 3 {
			for j := range 2 {
				b := withArm(i, j, func(a *runbook.Arm) { a.Pattern = []byte(pattern) })
				returns(t, b, b.Steps[i].Arms[j].At, want)
				if c, _, e := check.Compile(b); e == api.OK && string(c.Steps[i].Arms[j].Pattern) != pattern {
					t.Fatalf("Compile(%s): the pattern is %q", shown(b), c.Steps[i].Arms[j].Pattern)
				}
			}
		}
	}
}

// No pattern has too many instructions, so an error of nfa.Build can't be brought about; these have the most.
func TestPatternsWithTheMostInstructions(t *testing.T) {
	most := 0
	for _, pattern := range []string{strings.Repeat("|", 80), strings.Repeat("a*|", 26) + "a*", strings.Repeat("a|", 40), strings.Repeat("(|)*", 20), strings.Repeat("a*", 40)} {
		ops, _, e := regex.Parse([]byte(pattern))
		code, f := nfa.Build(ops)
		if e != api.OK || f != api.OK {
			t.Fatalf("%q: errors %d and %d", pattern, e, f)
		}
		most = max(most, len(code))
		returns(t, withArm(1, 1, func(a *runbook.Arm) { a.Pattern = []byte(pattern) }), 0, api.OK)
	}
	if most != 161 {
		t.Fatalf("there are %d instructions", most)
	}
}

// withVariables returns a book whose arms have these variables, three in each step.
func withVariables(names ...string) runbook.Book {
	b := runbook.Book{Most: 5}
	for i, name := range names {
		if i%3 == 0 {
			b.Steps = append(b.Steps, runbook.Step{At: 100 + i, Name: fmt.Sprintf("s%d", i), Time: 1, Else: "done"})
		}
		s := &b.Steps[len(b.Steps)-1]
		s.Arms = append(s.Arms, runbook.Arm{At: i, As: name, Go: "s0"})
	}
	return b
}

func TestVariables(t *testing.T) {
	eight := []string{"a", "b", "c", "d", "e", "f", "g", "h"}
	for _, c := range []struct {
		as    []string
		vars  []string
		place int // -1 if there is none too many
	}{
		{[]string{""}, nil, -1},
		{[]string{"", "", "", "", "", "", "", "", "", "", ""}, nil, -1},
		{[]string{"v"}, []string{"v"}, -1},
		{[]string{"v", "v", "v", "v"}, []string{"v"}, -1},
		{[]string{"b", "a"}, []string{"b", "a"}, -1},
		{[]string{"b", "", "a", "b", "", "c", "a"}, []string{"b", "a", "c"}, -1},
		{[]string{"z", "y", "x", "w", "v", "u", "t"}, []string{"z", "y", "x", "w", "v", "u", "t"}, -1},
		{[]string{"v", "V", "v ", "v\x00", "vv", "\xff", "done"}, []string{"v", "V", "v ", "v\x00", "vv", "\xff", "done"}, -1},
		{eight, eight, -1},
		{slices.Concat(eight, eight, []string{"", "h", "a"}), eight, -1},
		{append(slices.Clone(eight), "i"), nil, 8},
		{append(slices.Clone(eight), "", "a", "i"), nil, 10},
		{append(slices.Clone(eight), "a", "h", "", "i", "j", "i"), nil, 11},
		{append(slices.Clone(eight), "j", "i", "a"), nil, 8},
		{[]string{"a", "a", "b", "b", "c", "c", "d", "d", "e", "e", "f", "f", "g", "g", "h", "h"}, eight, -1},
		{[]string{"a", "a", "b", "b", "c", "c", "d", "d", "e", "e", "f", "f", "g", "g", "h", "i", "h"}, nil, 15},
	} {
		b := withVariables(c.as...)
		if c.place >= 0 {
			returns(t, b, c.place, api.ErrFull)
			continue
		}
		returns(t, b, 0, api.OK)
		compiled, _, _ := check.Compile(b)
		if !slices.Equal(compiled.Vars, c.vars) {
			t.Fatalf("Compile(%s): the variables are %q, not %q", shown(b), compiled.Vars, c.vars)
		}
		for i, as := range c.as {
			if got := compiled.Steps[i/3].Arms[i%3].Var; got != slices.Index(c.vars, as) {
				t.Fatalf("Compile(%s): the variable of the arm %d is %d", shown(b), i, got)
			}
		}
	}
}

// A variable that is one too many is wrong at its arm, and not at a line that has it; and that arm is ahead of the steps behind it, whatever is wrong with them.
func TestNinthVariableAndOtherFaults(t *testing.T) {
	nine := withVariables("a", "b", "c", "d", "e", "f", "g", "h", "i")
	nine.Steps[0].Tag, nine.Steps[0].Sends, nine.Steps[0].Send = api.Once, true, []byte("$i$h$a")
	returns(t, nine, 8, api.ErrFull)
	nine.Steps[0].Send = []byte("$i$j")
	returns(t, nine, 100, api.ErrName)

	// The step with the ninth variable is ahead of one with other faults.
	b := withVariables("a", "b", "c", "d", "e", "f", "g", "h", "i", "j", "k", "l")
	b.Steps[3] = runbook.Step{At: -5, Name: "done", Tag: 9, Time: -1, Send: []byte("$"), Else: "nowhere", Arms: []runbook.Arm{{Pattern: []byte("("), As: "z", Go: "nowhere"}}}
	returns(t, b, 8, api.ErrFull)
	b.Steps[2].Arms[2].As = "h"
	returns(t, b, -5, api.ErrTwice)
	b.Steps[2].Arms[2].Go = "nowhere"
	returns(t, b, 8, api.ErrName)
	b.Steps[2].Arms[2].As = "y"
	returns(t, b, 8, api.ErrFull)
	b.Steps[2].Arms[2].Pattern = []byte("*")
	returns(t, b, 8, api.ErrForm)
}

// The place is the At of the step or of the arm, whatever it is.
func TestPlaces(t *testing.T) {
	for _, at := range anyNumbers() {
		b := withStep(1, func(s *runbook.Step) { s.At, s.Else = at, "nowhere" })
		returns(t, b, at, api.ErrName)
		b = withArm(1, 1, func(a *runbook.Arm) { a.At, a.Go = at, "nowhere" })
		returns(t, b, at, api.ErrName)
		// All have the same one; and it has no meaning in a book that violates nothing.
		b = ordinary()
		for i := range b.Steps {
			b.Steps[i].At = at
			for j := range b.Steps[i].Arms {
				b.Steps[i].Arms[j].At = at
			}
		}
		want, _, _ := check.Compile(ordinary())
		yields(t, b, want)
		b.Steps[2].Arms[0].Pattern = []byte("(")
		returns(t, b, at, api.ErrForm)
		b.Most = 0
		returns(t, b, 0, api.ErrArg)
	}
}
