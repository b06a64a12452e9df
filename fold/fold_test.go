package fold_test

import (
	"bytes"
	"fmt"
	"math"
	"slices"
	"strings"
	"testing"

	"davit/api"
	"davit/check"
	"davit/fold"
	"davit/record"
	"davit/runbook"
)

// The calls have exactly these signatures.
var (
	_ func(api.Book) api.State                                     = fold.Start
	_ func(api.Book, api.State) bool                               = fold.Right
	_ func(api.Book, api.State, record.Rec) (api.State, api.Errno) = fold.Next
	_ func(api.Book, [][]byte) (api.State, api.Errno)              = fold.All
)

// told tells of a book in a message.
func told(b api.Book) string {
	s := fmt.Sprintf("most %d, %d variables, %d steps:", b.Most, len(b.Vars), len(b.Steps))
	for _, p := range b.Steps {
		s += fmt.Sprintf(" tag %d try %d else %d arms", p.Tag, p.Try, p.Else)
		for _, a := range p.Arms {
			s += fmt.Sprintf(" %d/%d", a.To, a.Var)
		}
		s += ";"
	}
	return s[:min(len(s), 2000)]
}

// shown tells of a state in a message.
func shown(s api.State) string {
	return fmt.Sprintf("(step %d visit %d tries %d offset %d, %d variables %.900q)", s.Step, s.Visit, s.Tries, s.Offset, len(s.Vars), s.Vars[:min(len(s.Vars), 10)])
}

// named tells of a record in a message.
func named(r record.Rec) string {
	return fmt.Sprintf("(kind %d state %s visit %d step %d try %d to %d offset %d var %d value %.300q)",
		r.Kind, shown(r.S), r.Visit, r.Step, r.Try, r.To, r.Offset, r.Var, r.Value)
}

// same reports whether two states have the same fields; a nil list is as good as an empty one.
func same(a, b api.State) bool {
	return a.Step == b.Step && a.Visit == b.Visit && a.Tries == b.Tries && a.Offset == b.Offset && slices.EqualFunc(a.Vars, b.Vars, bytes.Equal)
}

// judges checks Right against the second one; it reports whether s is valid.
func judges(t *testing.T, b api.Book, s api.State) bool {
	t.Helper()
	want := slowRight(b, s)
	if fold.Right(b, s) != want {
		t.Fatalf("Right(%s, %s): %v", told(b), shown(s), !want)
	}
	return want
}

// is checks that s is valid, or that it is not. A Point of a valid state begins a journal, one of another state does not.
func is(t *testing.T, b api.Book, s api.State, valid bool) {
	t.Helper()
	if judges(t, b, s) != valid {
		t.Fatalf("Right(%s, %s): %v", told(b), shown(s), !valid)
	}
	p := record.Rec{Kind: record.Point, S: s}
	if x, e := record.Put(p); e == api.OK {
		if _, f := folds(t, b, [][]byte{x}); (f == api.OK) != valid {
			t.Fatalf("All(%s, %s): error %d", told(b), named(p), f)
		}
	}
}

// follows checks Next against the second one; it returns what both return.
func follows(t *testing.T, b api.Book, s api.State, r record.Rec) (api.State, api.Errno) {
	t.Helper()
	want, f := slowNext(b, s, r)
	after, e := fold.Next(b, s, r)
	if e != f || !same(after, want) {
		t.Fatalf("Next(%s, %s, %s): %s, error %d, not %s, error %d", told(b), shown(s), named(r), shown(after), e, shown(want), f)
	}
	if e == api.OK {
		leadsOn(t, b, s, r, after)
	}
	return after, e
}

// leadsOn checks P16.3 of a state and the one after it.
func leadsOn(t *testing.T, b api.Book, s api.State, r record.Rec, after api.State) {
	t.Helper()
	hasTries := !slices.ContainsFunc(b.Steps, func(p api.Step) bool { return p.Try < 0 })
	if hasTries && !fold.Right(b, after) {
		t.Fatalf("Next(%s, %s, %s): %s, which is not valid", told(b), shown(s), named(r), shown(after))
	}
	more := 0
	if r.Kind == record.Outcome {
		more = 1
	}
	if after.Visit != s.Visit+more {
		t.Fatalf("Next(%s, %s, %s): the visit %d", told(b), shown(s), named(r), after.Visit)
	}
}

// leads checks that Next returns this state.
func leads(t *testing.T, b api.Book, s api.State, r record.Rec, want api.State) {
	t.Helper()
	if after, e := follows(t, b, s, r); e != api.OK || !same(after, want) {
		t.Fatalf("Next(%s, %s, %s): %s, error %d, not %s", told(b), shown(s), named(r), shown(after), e, shown(want))
	}
}

// torn checks that Next returns ErrTorn, and no state.
func torn(t *testing.T, b api.Book, s api.State, r record.Rec) {
	t.Helper()
	if after, e := follows(t, b, s, r); e != api.ErrTorn {
		t.Fatalf("Next(%s, %s, %s): %s, error %d", told(b), shown(s), named(r), shown(after), e)
	}
}

// can checks that r can follow s, or that it can't.
func can(t *testing.T, b api.Book, s api.State, r record.Rec, isSo bool) {
	t.Helper()
	if _, e := follows(t, b, s, r); (e == api.OK) != isSo {
		t.Fatalf("Next(%s, %s, %s): error %d", told(b), shown(s), named(r), e)
	}
}

// folds checks All against the second one; it returns what both return.
func folds(t *testing.T, b api.Book, l [][]byte) (api.State, api.Errno) {
	t.Helper()
	want, f := slowAll(b, l)
	s, e := fold.All(b, l)
	if e != f || !same(s, want) {
		t.Fatalf("All(%s, %d encodings, % x): %s, error %d, not %s, error %d", told(b), len(l), l[:min(len(l), 9)], shown(s), e, shown(want), f)
	}
	return s, e
}

// ordinary returns a book with a step of each tag, and of each kind of arms.
func ordinary() api.Book {
	return api.Book{Most: 10, Vars: []string{"u", "v", "w"}, Steps: []api.Step{
		{Name: "a", Tag: api.Once, Send: []byte("hi $v"), Time: 5, Else: api.Doubt, Arms: []api.Arm{
			{Pattern: []byte("x"), Var: 0, To: 1}, {Pattern: []byte("y"), Var: -1, To: api.Done}}},
		{Name: "b", Tag: api.Idem, Send: []byte("ho"), Time: 7, Try: 2, Else: 0, Arms: []api.Arm{
			{Pattern: []byte("x"), Var: 1, To: 2}, {Pattern: []byte("y"), Var: 0, To: api.Fail}, {Var: -1, To: 1}}},
		{Name: "c", Time: 9, Try: 5, Else: 2, Arms: []api.Arm{
			{Var: -1, To: 2}, {Pattern: []byte("x"), Var: 2, To: api.Doubt}, {Pattern: []byte("y"), Var: 1, To: 0}}},
	}}
}

// changed returns the ordinary book with a change.
func changed(change func(b *api.Book)) api.Book {
	b := ordinary()
	change(&b)
	return b
}

func texts(l ...string) [][]byte {
	var vars [][]byte
	for _, s := range l {
		vars = append(vars, []byte(s))
	}
	return vars
}

// at returns a valid state of the ordinary book.
func at(step, visit, tries, offset int) api.State {
	return api.State{Step: step, Visit: visit, Tries: tries, Offset: offset, Vars: texts("one", "", "three")}
}

func intent(visit, step, try int) record.Rec {
	return record.Rec{Kind: record.Intent, Visit: visit, Step: step, Try: try}
}

func outcome(visit, to, offset, v int, value string) record.Rec {
	return record.Rec{Kind: record.Outcome, Visit: visit, To: to, Offset: offset, Var: v, Value: []byte(value)}
}

func point(s api.State) record.Rec {
	return record.Rec{Kind: record.Point, S: s}
}

// put returns the encoding of a record that must be valid.
func put(t *testing.T, r record.Rec) []byte {
	t.Helper()
	x, e := record.Put(r)
	if e != api.OK {
		t.Fatalf("Put(%s): error %d", named(r), e)
	}
	return x
}

// puts returns the encodings of records.
func puts(t *testing.T, l ...record.Rec) [][]byte {
	t.Helper()
	var all [][]byte
	for _, r := range l {
		all = append(all, put(t, r))
	}
	return all
}

// books returns books of many kinds, also such as are not compiled from any runbook.
func books() []api.Book {
	var steps []api.Step
	for i := range 30 {
		steps = append(steps, api.Step{Tag: i % 3, Try: i % 6, Else: (i + 1) % 30, Arms: []api.Arm{{Var: i%9 - 1, To: 29 - i}, {Var: -1, To: -1 - i%3}}})
	}
	var many []api.Arm
	for i := range 100 {
		many = append(many, api.Arm{Var: i%12 - 3, To: i/3 - 5})
	}
	eight := []string{"a", "b", "c", "d", "e", "f", "g", "h"}
	return []api.Book{
		ordinary(),
		{},
		{Most: 1},
		{Most: 100, Vars: eight},
		{Most: 1, Steps: []api.Step{{}}},
		{Most: 1000, Steps: steps, Vars: eight},
		{Most: 3, Steps: steps[:1], Vars: eight[:1]},
		{Most: 2, Steps: []api.Step{{Arms: many, Try: 5}}, Vars: eight},
		{Most: 5, Steps: []api.Step{{Arms: many}, {Try: 2}}, Vars: eight[:2]},
		{Most: 1000, Steps: []api.Step{{Try: -1}, {Try: 1, Else: 0}, {Try: -2}, {Try: math.MinInt}, {Try: 0, Else: 2}}, Vars: eight[:1]},
		{Most: 1000, Steps: []api.Step{{Try: 6, Else: 7}, {Try: 100, Else: -4}, {Try: math.MaxInt, Else: math.MaxInt}}},
		{Most: 0, Steps: steps},
		{Most: -1, Steps: steps, Vars: eight[:1]},
		{Most: math.MinInt, Steps: steps},
		{Most: 1001, Steps: steps[:2]},
		{Most: math.MaxInt, Steps: steps[:3], Vars: eight[:3]},
		{Most: 9, Steps: slices.Repeat(steps, 3), Vars: slices.Repeat(eight, 2)},
		{Most: 9, Steps: steps[:2], Vars: append(eight, "i")},
	}
}

func TestExample(t *testing.T) {
	b := ordinary()
	s, e := fold.Next(b, fold.Start(b), intent(1, 0, 0))
	if e != api.OK || s.Tries != 1 {
		t.Errorf("Next: %s, error %d", shown(s), e)
	}
}

// A whole run of a runbook, from its text on.
func TestRun(t *testing.T) {
	parsed, _, e := runbook.Parse([]byte(`most 4
step login idem send "root" on "Password:" go pass on "Hi, (\w+)" as who go wait within 10 tries 1 else fail end
step pass once send "$who" on "\d+" as number go login within 9 else doubt end
step wait on "k" go done within 5 tries 2 else login end`))
	b, _, f := check.Compile(parsed)
	if e != api.OK || f != api.OK {
		t.Fatalf("errors %d and %d", e, f)
	}
	var l [][]byte
	s := fold.Start(b)
	for _, c := range []struct {
		r    record.Rec
		want api.State
	}{
		{intent(1, 0, 0), api.State{Step: 0, Visit: 1, Tries: 1, Vars: texts("", "")}},
		{intent(1, 0, 1), api.State{Step: 0, Visit: 1, Tries: 2, Vars: texts("", "")}},
		{outcome(1, 1, 12, -1, ""), api.State{Step: 1, Visit: 2, Offset: 12, Vars: texts("", "")}},
		{intent(2, 1, 0), api.State{Step: 1, Visit: 2, Tries: 1, Offset: 12, Vars: texts("", "")}},
		{outcome(2, 0, 12, 1, "77"), api.State{Step: 0, Visit: 3, Offset: 12, Vars: texts("", "77")}},
		{intent(3, 0, 0), api.State{Step: 0, Visit: 3, Tries: 1, Offset: 12, Vars: texts("", "77")}},
		{outcome(3, 2, 1000, 0, "Hi, you"), api.State{Step: 2, Visit: 4, Offset: 1000, Vars: texts("Hi, you", "77")}},
		{intent(4, 2, 0), api.State{Step: 2, Visit: 4, Tries: 1, Offset: 1000, Vars: texts("Hi, you", "77")}},
		{intent(4, 2, 1), api.State{Step: 2, Visit: 4, Tries: 2, Offset: 1000, Vars: texts("Hi, you", "77")}},
		{intent(4, 2, 2), api.State{Step: 2, Visit: 4, Tries: 3, Offset: 1000, Vars: texts("Hi, you", "77")}},
		{outcome(4, 0, 1000, -1, ""), api.State{Step: api.Fail, Visit: 5, Offset: 1000, Vars: texts("Hi, you", "77")}},
	} {
		leads(t, b, s, c.r, c.want)
		s = c.want
		l = append(l, put(t, c.r))
		if got, e := folds(t, b, append(puts(t, point(fold.Start(b))), l...)); e != api.OK || !same(got, c.want) {
			t.Fatalf("All: %s, error %d, not %s", shown(got), e, shown(c.want))
		}
	}
}

func TestStart(t *testing.T) {
	l := books()
	for _, size := range []int{0, 1, 2, 7, 8, 9, 100, 100000} {
		l = append(l, api.Book{Vars: make([]string, size)}, changed(func(b *api.Book) { b.Vars = make([]string, size) }))
	}
	for _, b := range l {
		s := fold.Start(b)
		if s.Step != 0 || s.Visit != 1 || s.Tries != 0 || s.Offset != 0 || len(s.Vars) != len(b.Vars) {
			t.Errorf("Start(%s): %s", told(b), shown(s))
		}
		for _, v := range s.Vars {
			if len(v) != 0 {
				t.Errorf("Start(%s): %s", told(b), shown(s))
			}
		}
		if got, e := folds(t, b, nil); e != api.OK || !same(got, s) {
			t.Errorf("All(%s, no records): %s, error %d", told(b), shown(got), e)
		}
		judges(t, b, s)
	}
	is(t, ordinary(), fold.Start(ordinary()), true)
	is(t, api.Book{}, fold.Start(api.Book{}), false)
	is(t, api.Book{Most: 1}, fold.Start(api.Book{Most: 1}), false)
	is(t, api.Book{Steps: []api.Step{{}}}, fold.Start(api.Book{}), false)
	is(t, api.Book{Steps: []api.Step{{}}, Most: 1}, fold.Start(api.Book{}), true)
}

func TestStepOfState(t *testing.T) {
	for _, steps := range []int{0, 1, 2, 29, 30, 31, 40} {
		b := changed(func(b *api.Book) { b.Steps = slices.Repeat(b.Steps, 20)[:steps] })
		for _, step := range []int{math.MinInt, -1 << 32, -100, -5, -4, steps, steps + 1, steps + 30, 1 << 32, math.MaxInt} {
			is(t, b, at(step, 1, 0, 0), false)
		}
		for step := -3; step < steps; step++ {
			is(t, b, at(step, 1, 0, 0), true)
		}
	}
}

func TestVisitOfState(t *testing.T) {
	for _, most := range []int{math.MinInt, -2, -1, 0, 1, 2, 10, 999, 1000, 1001, 1 << 31, math.MaxInt - 1, math.MaxInt} {
		b := changed(func(b *api.Book) { b.Most = most })
		for _, visit := range []int{math.MinInt, -1 << 32, -1, 0, 1, 2, 3, most - 1, most, most + 1, most + 2, 1000, 1001, 1002, 1<<32 + 1, math.MaxInt} {
			for step := range 3 {
				is(t, b, at(step, visit, 0, 0), visit >= 1 && visit <= most)
			}
			for step := -3; step < 0; step++ {
				is(t, b, at(step, visit, 0, 0), visit >= 1 && (visit <= most || visit-1 == most))
			}
		}
	}
	b := ordinary()
	is(t, b, at(0, 10, 0, 0), true)
	is(t, b, at(0, 11, 0, 0), false)
	is(t, b, at(api.Done, 11, 0, 0), true)
	is(t, b, at(api.Done, 12, 0, 0), false)
	b.Most = 0
	is(t, b, at(0, 1, 0, 0), false)
	is(t, b, at(api.Fail, 1, 0, 0), true)
}

func TestTriesOfState(t *testing.T) {
	tries := []int{math.MinInt, -1 << 32, -2, -1, 0, 1, 2, 3, 5, 6, 7, 8, 101, 102, 1 << 31, 1 << 32, math.MaxInt}
	for _, try := range []int{math.MinInt, math.MinInt + 1, -3, -2, -1, 0, 1, 2, 5, 6, 100, math.MaxInt - 1, math.MaxInt} {
		b := changed(func(b *api.Book) { b.Steps[1].Try = try })
		for _, n := range append(tries, try-1, try, try+1, try+2) {
			is(t, b, at(1, 1, n, 0), n >= 0 && (n <= try || n-1 == try))
			is(t, b, at(0, 1, n, 0), n == 0 || n == 1)
			for step := -3; step < 0; step++ {
				is(t, b, at(step, 1, n, 0), n == 0)
			}
		}
	}
	b := ordinary()
	is(t, b, at(2, 1, 6, 0), true)
	is(t, b, at(2, 1, 7, 0), false)
	is(t, b, at(2, 1, -1, 0), false)
	is(t, b, at(api.Doubt, 1, 1, 0), false)
}

func TestOffsetOfState(t *testing.T) {
	for step := -3; step < 3; step++ {
		for _, offset := range []int{0, 1, 255, 256, 65536, 1<<31 - 2, 1<<31 - 1} {
			is(t, ordinary(), at(step, 1, 0, offset), true)
		}
		for _, offset := range []int{math.MinInt, -1 << 32, -1 << 31, -2, -1, 1 << 31, 1<<31 + 1, 1 << 32, 1<<32 + 1, math.MaxInt} {
			is(t, ordinary(), at(step, 1, 0, offset), false)
		}
	}
}

func TestNumberOfVarsOfState(t *testing.T) {
	for _, size := range []int{0, 1, 2, 7, 8, 9, 100} {
		b := changed(func(b *api.Book) { b.Vars = make([]string, size) })
		for _, has := range []int{0, 1, 2, 3, size - 1, size, size + 1, size + 256, 10000} {
			for step := -3; step < 3; step++ {
				s := at(step, 1, 0, 0)
				s.Vars = make([][]byte, max(has, 0))
				is(t, b, s, len(s.Vars) == size)
			}
		}
		s := at(0, 1, 0, 0)
		s.Vars = nil
		is(t, b, s, size == 0)
	}
}

func TestSizeOfVarsOfState(t *testing.T) {
	for _, count := range []int{1, 3, 8, 20} {
		b := changed(func(b *api.Book) { b.Vars = make([]string, count) })
		for i := range count {
			for _, size := range []int{0, 1, 50, 99, 100, 101, 102, 255, 256, 300, 65536, 1000000} {
				for step := -3; step < 3; step++ {
					s := at(step, 1, 0, 0)
					s.Vars = slices.Repeat(texts("ab"), count)
					s.Vars[i] = make([]byte, size)
					is(t, b, s, size <= 100)
				}
			}
		}
	}
}

// A state of no valid book, and what is zero.
func TestZeroValues(t *testing.T) {
	is(t, api.Book{}, api.State{}, false)
	is(t, ordinary(), api.State{}, false)
	torn(t, api.Book{}, api.State{}, record.Rec{})
	torn(t, ordinary(), at(0, 1, 1, 0), record.Rec{})
	torn(t, ordinary(), api.State{}, intent(1, 0, 0))
	// A book without steps has states at the ends alone, and no record follows these.
	for step := -3; step < 0; step++ {
		is(t, api.Book{}, api.State{Step: step, Visit: 1}, true)
	}
	if s, e := folds(t, api.Book{}, [][]byte{nil}); e != api.ErrTorn {
		t.Errorf("All: %s, error %d", shown(s), e)
	}
}

func TestIntent(t *testing.T) {
	b := ordinary()
	for step, tries := range []int{0, 2, 5} {
		for try := range tries + 1 {
			leads(t, b, at(step, 7, try, 20), intent(7, step, try), at(step, 7, try+1, 20))
		}
		// All tries were begun.
		torn(t, b, at(step, 7, tries+1, 20), intent(7, step, min(tries+1, 5)))
		torn(t, b, at(step, 7, tries+1, 20), intent(7, step, tries))
	}
	// At the first visit and at the last one.
	leads(t, b, at(0, 1, 0, 0), intent(1, 0, 0), at(0, 1, 1, 0))
	leads(t, b, at(0, 10, 0, 0), intent(10, 0, 0), at(0, 10, 1, 0))
	torn(t, b, at(0, 11, 0, 0), intent(11, 0, 0))
}

func TestVisitOfIntent(t *testing.T) {
	b := ordinary()
	for visit := 1; visit <= 10; visit++ {
		for other := -1; other <= 12; other++ {
			can(t, b, at(1, visit, 1, 5), intent(other, 1, 1), other == visit)
		}
	}
	for _, most := range []int{1000, 1001, 1002, 5000, math.MaxInt} {
		b.Most = most
		for _, visit := range []int{1, 999, 1000, 1001, 1002, 5000, math.MaxInt} {
			// No valid record has a visit above 1001.
			can(t, b, at(1, visit, 1, 5), intent(visit, 1, 1), visit <= min(most, 1001))
		}
	}
}

func TestStepOfIntent(t *testing.T) {
	b := changed(func(b *api.Book) { b.Steps = slices.Repeat(b.Steps[1:2], 40) })
	for step := -3; step < 40; step++ {
		for _, other := range []int{-3, -2, -1, 0, 1, 28, 29, 30, 31, step - 1, step, step + 1} {
			can(t, b, at(step, 3, 0, 5), intent(3, other, 0), other == step && step >= 0 && step <= 29)
		}
	}
}

func TestTryOfIntent(t *testing.T) {
	for _, try := range []int{math.MinInt, -2, -1, 0, 1, 2, 4, 5, 6, 7, 100, math.MaxInt} {
		b := changed(func(b *api.Book) { b.Steps[1].Try = try })
		for tries := -2; tries <= 9; tries++ {
			for other := -2; other <= 9; other++ {
				// No valid record has a try above 5.
				can(t, b, at(1, 3, tries, 5), intent(3, 1, other), other == tries && other >= 0 && other <= min(try, 5))
			}
		}
	}
}

// Tags, and what else a step has, do not matter for an Intent.
func TestTagsDoNotMatter(t *testing.T) {
	for _, tag := range []int{-1, api.Plain, api.Once, api.Idem, 3, math.MaxInt} {
		b := changed(func(b *api.Book) { b.Steps[1].Tag, b.Steps[1].Time, b.Steps[1].Send = tag, tag, nil })
		leads(t, b, at(1, 3, 2, 5), intent(3, 1, 2), at(1, 3, 3, 5))
		leads(t, b, at(1, 3, 2, 5), outcome(3, 0, 5, -1, ""), at(0, 4, 0, 5))
	}
}

func TestOutcomeOfArm(t *testing.T) {
	b := ordinary()
	after := func(step, visit, offset int, vars ...string) api.State {
		return api.State{Step: step, Visit: visit, Offset: offset, Vars: texts(vars...)}
	}
	leads(t, b, at(0, 3, 1, 20), outcome(3, 1, 25, 0, "new"), after(1, 4, 25, "new", "", "three"))
	leads(t, b, at(0, 3, 1, 20), outcome(3, 1, 20, 0, ""), after(1, 4, 20, "", "", "three"))
	leads(t, b, at(0, 3, 1, 20), outcome(3, api.Done, 21, -1, ""), after(api.Done, 4, 21, "one", "", "three"))
	leads(t, b, at(1, 3, 1, 20), outcome(3, 2, 25, 1, "new"), after(2, 4, 25, "one", "new", "three"))
	leads(t, b, at(1, 3, 3, 20), outcome(3, api.Fail, 25, 0, "new"), after(api.Fail, 4, 25, "new", "", "three"))
	leads(t, b, at(1, 3, 2, 20), outcome(3, 1, 25, -1, ""), after(1, 4, 25, "one", "", "three"))
	leads(t, b, at(2, 3, 6, 20), outcome(3, 2, 25, -1, ""), after(2, 4, 25, "one", "", "three"))
	leads(t, b, at(2, 3, 6, 20), outcome(3, api.Doubt, 25, 2, "\x00\n"), after(api.Doubt, 4, 25, "one", "", "\x00\n"))
	leads(t, b, at(2, 3, 6, 20), outcome(3, 0, math.MaxInt32, 1, strings.Repeat("x", 100)), after(0, 4, math.MaxInt32, "one", strings.Repeat("x", 100), "three"))
}

func TestOutcomeWithoutMatch(t *testing.T) {
	b := ordinary()
	left := func(step int) api.State { return at(step, 4, 0, 20) }
	leads(t, b, at(0, 3, 1, 20), outcome(3, api.Doubt, 20, -1, ""), left(api.Doubt))
	leads(t, b, at(0, 3, 1, 20), outcome(3, api.Fail, 20, -1, ""), left(api.Fail))
	leads(t, b, at(1, 3, 1, 20), outcome(3, 0, 20, -1, ""), left(0))
	leads(t, b, at(1, 3, 1, 20), outcome(3, api.Fail, 20, -1, ""), left(api.Fail))
	leads(t, b, at(2, 3, 1, 20), outcome(3, 2, 20, -1, ""), left(2))
	leads(t, b, at(2, 3, 1, 20), outcome(3, api.Fail, 20, -1, ""), left(api.Fail))
	for _, offset := range []int{0, 19, 21, math.MaxInt32} {
		torn(t, b, at(0, 3, 1, 20), outcome(3, api.Doubt, offset, -1, ""))
		torn(t, b, at(0, 3, 1, 20), outcome(3, api.Fail, offset, -1, ""))
		torn(t, b, at(1, 3, 1, 20), outcome(3, 0, offset, -1, ""))
		torn(t, b, at(1, 3, 1, 20), outcome(3, api.Fail, offset, -1, ""))
	}
	for v := range 3 {
		torn(t, b, at(0, 3, 1, 20), outcome(3, api.Doubt, 20, v, ""))
		torn(t, b, at(0, 3, 1, 20), outcome(3, api.Fail, 20, v, ""))
		torn(t, b, at(1, 3, 1, 20), outcome(3, 0, 20, v, ""))
	}
	// Done and Doubt are no way to leave every step, nor is the step itself.
	torn(t, b, at(1, 3, 1, 20), outcome(3, api.Done, 20, -1, ""))
	torn(t, b, at(1, 3, 1, 20), outcome(3, api.Doubt, 20, -1, ""))
	torn(t, b, at(0, 3, 1, 20), outcome(3, 0, 20, -1, ""))
	torn(t, b, at(0, 3, 1, 20), outcome(3, 2, 20, -1, ""))
}

func TestVisitOfOutcome(t *testing.T) {
	b := ordinary()
	for visit := 1; visit <= 10; visit++ {
		for other := -1; other <= 12; other++ {
			can(t, b, at(1, visit, 1, 5), outcome(other, api.Fail, 5, -1, ""), other == visit)
			can(t, b, at(1, visit, 1, 5), outcome(other, 1, 6, -1, ""), other == visit)
		}
	}
	for _, most := range []int{1000, 1001, 1002, 5000, math.MaxInt} {
		b.Most = most
		for _, visit := range []int{1, 999, 1000, 1001, 1002, 5000, math.MaxInt} {
			can(t, b, at(1, visit, 1, 5), outcome(visit, api.Fail, 5, -1, ""), visit <= min(most, 1001))
		}
	}
}

func TestOutcomeAheadOfIntent(t *testing.T) {
	b := ordinary()
	for step, most := range []int{0, 2, 5} {
		for tries := range most + 2 {
			s := at(step, 3, tries, 5)
			for _, w := range ways(b, s) {
				can(t, b, s, outcome(3, w.to, 5, w.v, ""), tries > 0)
			}
		}
	}
}

// An arm, or an Else, that leads to no target is no way to leave a step.
func TestTargetOfOutcome(t *testing.T) {
	for steps := 1; steps <= 40; steps++ {
		for _, to := range []int{-5, -4, -3, -2, -1, 0, steps - 1, steps, steps + 1, 29, 30, 31, math.MaxInt} {
			b := changed(func(b *api.Book) {
				b.Steps = slices.Repeat(b.Steps[1:2], steps)
				b.Steps[0].Arms = []api.Arm{{Var: -1, To: to}, {Var: 1, To: to}}
				b.Steps[0].Else = to
			})
			isOne := to >= -3 && to < steps && to <= 29
			can(t, b, at(0, 3, 1, 5), outcome(3, to, 6, -1, ""), isOne)
			can(t, b, at(0, 3, 1, 5), outcome(3, to, 6, 1, "x"), isOne)
			can(t, b, at(0, 3, 1, 5), outcome(3, to, 5, -1, ""), isOne)
			b.Steps[0].Arms = nil
			can(t, b, at(0, 3, 1, 5), outcome(3, to, 5, -1, ""), isOne)
		}
	}
}

// An arm whose Var is no variable is no way to leave a step.
func TestVariableOfOutcome(t *testing.T) {
	for _, size := range []int{0, 1, 2, 3, 7, 8, 9, 20} {
		for _, v := range []int{math.MinInt, -3, -2, -1, 0, 1, size - 1, size, size + 1, 7, 8, 9, math.MaxInt} {
			b := changed(func(b *api.Book) {
				b.Vars = make([]string, size)
				b.Steps[0].Arms = []api.Arm{{Var: v, To: 1}}
			})
			s := api.State{Step: 0, Visit: 3, Tries: 1, Offset: 5, Vars: make([][]byte, size)}
			can(t, b, s, outcome(3, 1, 6, v, ""), v >= -1 && v < size && v <= 7)
			can(t, b, s, outcome(3, 1, 6, v, "x"), v >= 0 && v < size && v <= 7)
		}
	}
}

// The To and the Var of an outcome must be those of one arm.
func TestToAndVarOfUnlikeArms(t *testing.T) {
	b := changed(func(b *api.Book) {
		b.Steps[0].Arms = []api.Arm{{Var: 0, To: 1}, {Var: 1, To: 2}, {Var: -1, To: api.Done}}
	})
	for to := -4; to <= 4; to++ {
		for v := -2; v <= 4; v++ {
			isOne := to == 1 && v == 0 || to == 2 && v == 1 || to == api.Done && v == -1
			can(t, b, at(0, 3, 1, 5), outcome(3, to, 6, v, ""), isOne)
			without := v == -1 && (to == api.Doubt || to == api.Fail)
			can(t, b, at(0, 3, 1, 5), outcome(3, to, 5, v, ""), isOne || without)
			can(t, b, at(0, 3, 1, 5), outcome(3, to, 4, v, ""), false)
		}
	}
	b.Steps[0].Arms = nil
	for to := -4; to <= 4; to++ {
		can(t, b, at(0, 3, 1, 5), outcome(3, to, 5, -1, ""), to == api.Doubt || to == api.Fail)
		can(t, b, at(0, 3, 1, 5), outcome(3, to, 6, -1, ""), false)
	}
}

// The arms of a step are all of its own: those of other steps, and the Else of other steps, do not count.
func TestWaysOfOtherSteps(t *testing.T) {
	b := ordinary()
	for i := range b.Steps {
		for _, w := range ways(b, api.State{Step: i}) {
			for j := range b.Steps {
				s := at(j, 3, 1, 5)
				isOwn := slices.ContainsFunc(ways(b, s), func(o way) bool { return o.to == w.to && o.v == w.v })
				can(t, b, s, outcome(3, w.to, 5, w.v, ""), isOwn)
			}
		}
	}
}

func TestOffsetOfOutcome(t *testing.T) {
	b := ordinary()
	for _, own := range []int{0, 1, 5, 65536, math.MaxInt32 - 1, math.MaxInt32} {
		for _, offset := range []int{-1 << 32, -1, 0, 1, 4, 5, 6, 65535, 65536, 65537, math.MaxInt32 - 1, math.MaxInt32, 1 << 31, 1 << 32, 1<<32 + own, own - 1, own, own + 1} {
			isOffset := offset >= 0 && offset <= math.MaxInt32
			can(t, b, at(1, 3, 1, own), outcome(3, 2, offset, 1, "x"), isOffset && offset >= own)
			can(t, b, at(1, 3, 1, own), outcome(3, api.Fail, offset, 0, "x"), isOffset && offset >= own)
			can(t, b, at(1, 3, 1, own), outcome(3, 0, offset, -1, ""), offset == own)
			can(t, b, at(1, 3, 1, own), outcome(3, api.Fail, offset, -1, ""), offset == own)
			can(t, b, at(1, 3, 1, own), outcome(3, 1, offset, -1, ""), isOffset && offset >= own)
		}
	}
}

// At the last visit, an outcome that leads to a step leads to Fail.
func TestLastVisit(t *testing.T) {
	for _, most := range []int{1, 2, 10, 999, 1000, 1001} {
		b := changed(func(b *api.Book) { b.Most = most })
		for _, visit := range []int{1, most - 1, most} {
			if visit < 1 {
				continue
			}
			for step := range b.Steps {
				s := at(step, visit, 1, 5)
				for _, w := range ways(b, s) {
					want := at(w.to, visit+1, 0, 5)
					if w.to >= 0 && visit == most {
						want.Step = api.Fail
					}
					if w.v >= 0 {
						want.Vars[w.v] = []byte("last")
					}
					r := outcome(visit, w.to, 5, w.v, "")
					if w.v >= 0 {
						r.Value = []byte("last")
					}
					leads(t, b, s, r, want)
				}
			}
		}
	}
}

func TestPointNeverFollows(t *testing.T) {
	b := ordinary()
	for step := -3; step < 3; step++ {
		for tries := range 4 {
			s := at(step, 3, tries, 5)
			torn(t, b, s, point(s))
			torn(t, b, s, point(fold.Start(b)))
			torn(t, b, s, record.Rec{Kind: record.Point})
			torn(t, b, s, point(at(0, 3, tries+1, 5)))
			torn(t, b, api.State{}, point(s))
		}
	}
}

func TestNothingFollowsTheEnd(t *testing.T) {
	b := ordinary()
	for step := -3; step < 0; step++ {
		for _, visit := range []int{1, 9, 10, 11} {
			s := at(step, visit, 0, 5)
			is(t, b, s, true)
			torn(t, b, s, point(s))
			for place := -3; place < 3; place++ {
				for try := range 2 {
					torn(t, b, s, intent(visit, place, try))
				}
				for v := -1; v < 3; v++ {
					torn(t, b, s, outcome(visit, place, 5, v, ""))
				}
			}
			s.Tries = 1
			torn(t, b, s, outcome(visit, api.Fail, 5, -1, ""))
		}
	}
}

// A record that is not valid, but for this could follow.
func TestRecordsThatAreNotValid(t *testing.T) {
	b, s := ordinary(), at(1, 3, 1, 5)
	isLeft := outcome(3, 2, 6, 1, "x")
	for _, change := range []func(r *record.Rec){
		func(r *record.Rec) { r.S.Step = 1 },
		func(r *record.Rec) { r.S.Visit = 3 },
		func(r *record.Rec) { r.S.Tries = -1 },
		func(r *record.Rec) { r.S.Offset = 5 },
		func(r *record.Rec) { r.S.Vars = make([][]byte, 1) },
		func(r *record.Rec) { r.Kind += 4 },
		func(r *record.Rec) { r.Kind -= 4 },
		func(r *record.Rec) { r.Kind += 256 },
	} {
		for _, r := range []record.Rec{intent(3, 1, 1), isLeft, outcome(3, 0, 5, -1, "")} {
			can(t, b, s, r, true)
			change(&r)
			torn(t, b, s, r)
		}
	}
	for _, r := range []record.Rec{
		{Kind: record.Intent, Visit: 3, Step: 1, Try: 1, To: 1},
		{Kind: record.Intent, Visit: 3, Step: 1, Try: 1, Offset: 5},
		{Kind: record.Intent, Visit: 3, Step: 1, Try: 1, Var: -1},
		{Kind: record.Intent, Visit: 3, Step: 1, Try: 1, Value: []byte("x")},
		{Kind: record.Outcome, Visit: 3, Step: 1, To: 2, Offset: 6, Var: 1},
		{Kind: record.Outcome, Visit: 3, Try: 1, To: 2, Offset: 6, Var: 1},
		{Kind: record.Outcome, Visit: 3, To: 2, Offset: 6, Var: 1, Value: make([]byte, 101)},
		{Kind: record.Outcome, Visit: 3, To: 1, Offset: 6, Var: -1, Value: []byte("x")},
		{Kind: record.Outcome, Visit: 3, To: 2, Offset: 1 << 31, Var: 1},
		{Kind: record.Outcome, Visit: 3, To: 2, Offset: 1 << 32, Var: 1},
	} {
		torn(t, b, s, r)
	}
	can(t, b, s, outcome(3, 2, 6, 1, strings.Repeat("x", 100)), true)
}

// A state that is not valid, from which the record could follow but for this.
func TestStatesThatAreNotValid(t *testing.T) {
	b := ordinary()
	for _, change := range []func(s *api.State, r *record.Rec){
		func(s *api.State, r *record.Rec) { s.Offset, r.Offset = -1, max(r.Offset, 0) },
		func(s *api.State, r *record.Rec) { s.Visit, r.Visit = 11, 11 },
		func(s *api.State, r *record.Rec) { s.Visit, r.Visit = 0, 0 },
		func(s *api.State, r *record.Rec) { s.Vars = s.Vars[:2] },
		func(s *api.State, r *record.Rec) { s.Vars = append(s.Vars, nil) },
		func(s *api.State, r *record.Rec) { s.Vars = nil },
		func(s *api.State, r *record.Rec) { s.Vars[2] = make([]byte, 101) },
		func(s *api.State, r *record.Rec) { s.Step = 3 },
	} {
		for _, r := range []record.Rec{intent(3, 1, 1), outcome(3, 2, 6, 1, "x"), outcome(3, api.Fail, 5, -1, ""), outcome(3, 1, 6, -1, "")} {
			s := at(1, 3, 1, 5)
			can(t, b, s, r, true)
			change(&s, &r)
			torn(t, b, s, r)
		}
	}
	// More tries than there are.
	can(t, b, at(1, 3, 3, 5), outcome(3, 2, 6, 1, "x"), true)
	torn(t, b, at(1, 3, 4, 5), outcome(3, 2, 6, 1, "x"))
	torn(t, b, at(1, 3, -1, 5), outcome(3, 2, 6, 1, "x"))
	torn(t, b, at(1, 3, -1, 5), intent(3, 1, -1))
	// A variable that would be set may not be too long before either.
	s := at(1, 3, 1, 5)
	s.Vars[1] = make([]byte, 101)
	torn(t, b, s, outcome(3, 2, 6, 1, "x"))
}

// The variable of the outcome changes, and no other one.
func TestVariablesAfterOutcome(t *testing.T) {
	for _, size := range []int{1, 2, 5, 8, 20} {
		for v := -1; v < min(size, 8); v++ {
			b := api.Book{Most: 5, Vars: make([]string, size), Steps: []api.Step{{Arms: []api.Arm{{Var: v, To: 0}}}}}
			for _, value := range []string{"", "x", "\x00", "value", strings.Repeat("\xff", 100)} {
				if v == -1 {
					value = ""
				}
				s, want := api.State{Visit: 1, Tries: 1}, api.State{Visit: 2, Offset: 9}
				for i := range size {
					own := []byte(strings.Repeat("o", i))
					s.Vars = append(s.Vars, own)
					if i == v {
						own = []byte(value)
					}
					want.Vars = append(want.Vars, own)
				}
				leads(t, b, s, outcome(1, 0, 9, v, value), want)
			}
		}
	}
}

// A step whose Try is below 0 has no try; if it is below -1, no state at it is valid.
func TestTryBelowZero(t *testing.T) {
	for _, try := range []int{-1, -2, -100, math.MinInt} {
		b := changed(func(b *api.Book) { b.Steps[1].Try = try })
		// The state after this outcome is not valid if Try is below -1, but it is the one after it.
		leads(t, b, at(0, 3, 1, 5), outcome(3, 1, 6, 0, ""), api.State{Step: 1, Visit: 4, Offset: 6, Vars: texts("", "", "three")})
		is(t, b, at(1, 4, 0, 6), try == -1)
		torn(t, b, at(1, 4, 0, 6), intent(4, 1, 0))
		torn(t, b, at(1, 4, 0, 6), outcome(4, api.Fail, 6, -1, ""))
		torn(t, b, at(1, 4, 1, 6), outcome(4, api.Fail, 6, -1, ""))
		l := puts(t, point(at(0, 3, 0, 5)), intent(3, 0, 0), outcome(3, 1, 6, 0, ""))
		if s, e := folds(t, b, l); e != api.OK || s.Step != 1 || s.Visit != 4 {
			t.Errorf("All(%s): %s, error %d", told(b), shown(s), e)
		}
		for _, r := range []record.Rec{intent(4, 1, 0), outcome(4, api.Fail, 6, -1, ""), point(at(0, 3, 0, 5))} {
			if s, e := folds(t, b, append(slices.Clone(l), put(t, r))); e != api.ErrTorn {
				t.Errorf("All(%s): %s, error %d", told(b), shown(s), e)
			}
		}
	}
}

// A step beyond the thirty that a runbook may have can be left, but no Intent names it.
func TestManySteps(t *testing.T) {
	b := changed(func(b *api.Book) { b.Steps = slices.Repeat(b.Steps[1:2], 50) })
	leads(t, b, at(49, 3, 1, 5), outcome(3, 2, 6, 1, "x"), api.State{Step: 2, Visit: 4, Offset: 6, Vars: texts("one", "x", "three")})
	torn(t, b, at(49, 3, 1, 5), intent(3, 49, 1))
	torn(t, b, at(49, 3, 1, 5), intent(3, 49-30, 1))
}
