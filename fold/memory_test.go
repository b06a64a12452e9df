package fold_test

import (
	"bytes"
	"fmt"
	"reflect"
	"slices"
	"strings"
	"testing"

	"davit/api"
	"davit/fold"
	"davit/record"
)

// roomyText returns a copy in new memory, in which other bytes stand behind the end, so that an append to it would be seen.
func roomyText(b []byte) []byte {
	return append(bytes.Clone(b), "\x01\x02\x03\x04"...)[:len(b)]
}

func roomyTexts(l [][]byte) [][]byte {
	var all [][]byte
	for _, b := range l {
		all = append(all, roomyText(b))
	}
	return append(all, []byte("one"), []byte("two"))[:len(l)]
}

func roomyState(s api.State) api.State {
	s.Vars = roomyTexts(s.Vars)
	return s
}

func roomyRecord(r record.Rec) record.Rec {
	r.S, r.Value = roomyState(r.S), roomyText(r.Value)
	return r
}

// roomyBook returns a copy in new memory, with another arm, another step and another variable behind the ends.
func roomyBook(b api.Book) api.Book {
	b.Steps, b.Vars = slices.Clone(b.Steps), append(slices.Clone(b.Vars), "more")[:len(b.Vars)]
	for i := range b.Steps {
		p := &b.Steps[i]
		p.Send = roomyText(p.Send)
		p.Arms = append(slices.Clone(p.Arms), api.Arm{To: 0, Var: -1})[:len(p.Arms)]
		for j := range p.Arms {
			p.Arms[j].Pattern = roomyText(p.Arms[j].Pattern)
		}
	}
	b.Steps = append(b.Steps, api.Step{Name: "more", Try: 5})[:len(b.Steps)]
	return b
}

// whole returns a copy of all memory of texts, also of what is behind their ends.
func whole(l [][]byte) []any {
	all := []any{len(l)}
	for _, b := range l[:cap(l)] {
		all = append(all, len(b), bytes.Clone(b[:cap(b)]))
	}
	return all
}

func wholeState(s api.State) []any {
	return append(whole(s.Vars), s.Step, s.Visit, s.Tries, s.Offset)
}

func wholeRecord(r record.Rec) []any {
	numbers := []any{r.Kind, r.Visit, r.Step, r.Try, r.To, r.Offset, r.Var}
	return slices.Concat(wholeState(r.S), whole([][]byte{r.Value}), numbers)
}

func wholeBook(b api.Book) []any {
	all := []any{b.Most, len(b.Steps), len(b.Vars), slices.Clone(b.Vars[:cap(b.Vars)])}
	for _, p := range b.Steps[:cap(b.Steps)] {
		all = append(all, p.Name, p.Tag, bytes.Clone(p.Send[:cap(p.Send)]), p.Time, p.Try, p.Else, len(p.Arms))
		for _, a := range p.Arms[:cap(p.Arms)] {
			all = append(all, a.To, a.Var, bytes.Clone(a.Pattern[:cap(a.Pattern)]))
		}
	}
	return all
}

// overwrite changes texts, and what an append to them would reach.
func overwrite(l [][]byte) {
	for _, b := range l[:cap(l)] {
		_ = append(b, "\x05\x06\x07\x08"...)
		for i := range b[:cap(b)] {
			b[:cap(b)][i] ^= 255
		}
	}
	clear(l[:cap(l)])
}

// copied returns a copy in new memory.
func copied(s api.State) api.State {
	s.Vars = slices.Clone(s.Vars)
	for i, v := range s.Vars {
		s.Vars[i] = bytes.Clone(v)
	}
	return s
}

// isAlone checks that no variable of a state shares memory with another one: each is changed while the others stay.
func isAlone(t *testing.T, s api.State) {
	t.Helper()
	want := copied(s)
	for i := range s.Vars {
		overwrite(s.Vars[i : i+1 : i+1])
		s.Vars[i] = bytes.Clone(want.Vars[i])
		if !same(s, want) {
			t.Fatalf("the variable %d shares memory in %s", i, shown(want))
		}
	}
}

// situation is what Next may be asked.
type situation struct {
	b api.Book
	s api.State
	r record.Rec
}

// some returns situations of all kinds, most of whose records can follow.
func some() []situation {
	b := ordinary()
	full := at(1, 3, 1, 5)
	full.Vars = slices.Repeat(texts(strings.Repeat("z", 100)), 3)
	l := []situation{
		{b, at(0, 1, 0, 0), intent(1, 0, 0)},
		{b, at(1, 3, 2, 5), intent(3, 1, 2)},
		{b, at(1, 3, 1, 5), outcome(3, 2, 6, 1, "new")},
		{b, at(1, 3, 1, 5), outcome(3, api.Fail, 6, 0, "")},
		{b, at(1, 3, 1, 5), outcome(3, 0, 5, -1, "")},
		{b, full, outcome(3, 2, 6, 1, "a")},
		{b, full, outcome(3, 1, 6, -1, "")},
		{b, at(1, 10, 1, 5), outcome(10, 2, 6, 1, strings.Repeat("n", 100))},
		{b, at(1, 3, 1, 5), outcome(3, 2, 4, 1, "new")},
		{b, at(1, 3, 1, 5), outcome(3, 2, 6, 2, "new")},
		{b, at(1, 3, 1, 5), point(at(1, 3, 1, 5))},
		{b, at(api.Done, 3, 0, 5), intent(3, 1, 0)},
		{b, at(2, 11, 0, 5), intent(11, 2, 0)},
		{api.Book{}, api.State{}, record.Rec{}},
		{books()[5], api.State{Step: 1, Visit: 3, Tries: 1, Vars: texts("a", "", "b", "c", "d", "", "e", "f")}, outcome(3, 28, 0, 0, "x")},
	}
	n := numbers(13)
	for range 60 {
		b := n.book()
		s := n.state(b)
		l = append(l, situation{b, s, n.record(b, s)})
	}
	return l
}

func TestNextLeavesArgumentsAlone(t *testing.T) {
	for _, x := range some() {
		b, s, r := roomyBook(x.b), roomyState(x.s), roomyRecord(x.r)
		book, state, rec := wholeBook(b), wholeState(s), wholeRecord(r)
		after, e := follows(t, b, s, r)
		valid := judges(t, b, s)
		start := fold.Start(b)
		unchanged := func(what string) {
			t.Helper()
			if !reflect.DeepEqual(wholeBook(b), book) || !reflect.DeepEqual(wholeState(s), state) || !reflect.DeepEqual(wholeRecord(r), rec) {
				t.Fatalf("%s: the book, the state or the record has changed: %s, %s, %s", what, told(b), shown(s), named(r))
			}
		}
		unchanged("the calls")
		// What is returned is not of their memory, so changing it leaves them alone.
		want := copied(after)
		isAlone(t, after)
		unchanged("a change of what Next returned")
		overwrite(after.Vars)
		overwrite(start.Vars)
		unchanged("a change of what Next and Start returned")
		if again, f := fold.Next(b, s, r); f != e || !same(again, want) || judges(t, b, s) != valid || !same(fold.Start(b), slowStart(b)) {
			t.Fatalf("Next(%s, %s, %s): %s, error %d; and later %s, error %d", told(b), shown(s), named(r), shown(want), e, shown(again), f)
		}
	}
}

// What is returned does not change with the arguments.
func TestNextKeepsNothing(t *testing.T) {
	for _, x := range some() {
		b, s, r := roomyBook(x.b), roomyState(x.s), roomyRecord(x.r)
		after, e := fold.Next(b, s, r)
		start := fold.Start(b)
		want := copied(after)
		overwrite(s.Vars)
		overwrite(r.S.Vars)
		overwrite([][]byte{r.Value})
		clear(b.Steps)
		clear(b.Vars)
		if !same(after, want) || !same(start, slowStart(x.b)) {
			t.Fatalf("Next: %s changed with the arguments to %s", shown(want), shown(after))
		}
		if again, f := fold.Next(x.b, x.s, x.r); f != e || !same(again, want) {
			t.Fatalf("Next(%s, %s, %s): %s, error %d; and later %s, error %d", told(x.b), shown(x.s), named(x.r), shown(want), e, shown(again), f)
		}
	}
}

// The states that two calls return share no memory.
func TestStatesOfTwoCalls(t *testing.T) {
	for _, x := range some() {
		one, _ := fold.Next(x.b, x.s, x.r)
		other, _ := fold.Next(x.b, x.s, x.r)
		start, again := fold.Start(x.b), fold.Start(x.b)
		want := copied(other)
		overwrite(one.Vars)
		isAlone(t, start)
		overwrite(start.Vars)
		for i := range start.Vars {
			start.Vars[i] = []byte("?")
		}
		if !same(other, want) || !same(again, slowStart(x.b)) || !same(fold.Start(x.b), slowStart(x.b)) {
			t.Fatalf("states share memory: %s, %s", shown(other), shown(again))
		}
	}
}

// The variables of a state, and the value, may be one piece of memory; those of the state after it are not.
func TestStateThatSharesMemory(t *testing.T) {
	b, text := ordinary(), []byte("abcd")
	s := api.State{Step: 1, Visit: 3, Tries: 1, Offset: 5, Vars: [][]byte{text, text[:2], text[1:]}}
	for _, r := range []record.Rec{
		intent(3, 1, 1), outcome(3, 1, 6, -1, ""),
		{Kind: record.Outcome, Visit: 3, To: 2, Offset: 6, Var: 1, Value: text[:3]},
		{Kind: record.Outcome, Visit: 3, To: api.Fail, Offset: 6, Var: 0, Value: text},
	} {
		after, e := follows(t, b, s, r)
		if e != api.OK {
			t.Fatalf("Next: error %d", e)
		}
		isAlone(t, after)
		if string(text) != "abcd" {
			t.Fatalf("the text is now %q", text)
		}
	}
	l := puts(t, point(s), intent(3, 1, 1))
	got, _ := folds(t, b, [][]byte{l[0], l[1]})
	isAlone(t, got)
}

// journals returns lists of encodings, most of which are journals.
func journals(t *testing.T) []situationOfAll {
	n := numbers(14)
	l := []situationOfAll{{ordinary(), nil}, {ordinary(), [][]byte{nil}}, {ordinary(), puts(t, intent(1, 0, 0))}}
	for i := range 60 {
		b := n.book()
		s := slowStart(b)
		if i%2 == 0 {
			s = n.state(b)
		}
		all := puts(t, n.journal(t, b, s, 1+i/2).records...)
		if i%5 == 0 {
			all = append(all, all[0])
		}
		l = append(l, situationOfAll{b, all})
	}
	return l
}

// situationOfAll is what All may be asked.
type situationOfAll struct {
	b api.Book
	l [][]byte
}

func TestAllLeavesArgumentsAlone(t *testing.T) {
	for _, x := range journals(t) {
		b, l := roomyBook(x.b), roomyTexts(x.l)
		book, list := wholeBook(b), whole(l)
		s, e := folds(t, b, l)
		want := copied(s)
		isAlone(t, s)
		overwrite(s.Vars)
		if !reflect.DeepEqual(wholeBook(b), book) || !reflect.DeepEqual(whole(l), list) {
			t.Fatalf("the book or the encodings have changed: %s, % x", told(b), l)
		}
		if again, f := fold.All(b, l); f != e || !same(again, want) {
			t.Fatalf("All: %s, error %d; and later %s, error %d", shown(want), e, shown(again), f)
		}
	}
}

func TestAllKeepsNothing(t *testing.T) {
	for _, x := range journals(t) {
		b, l := roomyBook(x.b), roomyTexts(x.l)
		s, e := fold.All(b, l)
		other, _ := fold.All(b, l)
		want := copied(s)
		overwrite(l)
		clear(b.Steps)
		clear(b.Vars)
		overwrite(other.Vars)
		if !same(s, want) {
			t.Fatalf("All: %s changed with the arguments, or with another result, to %s", shown(want), shown(s))
		}
		if again, f := fold.All(x.b, x.l); f != e || !same(again, want) {
			t.Fatalf("All: %s, error %d; and later %s, error %d", shown(want), e, shown(again), f)
		}
	}
}

// What stands behind the ends of a book's lists is not of the book.
func TestBehindTheEndsOfLists(t *testing.T) {
	b := ordinary()
	b.Steps, b.Vars = b.Steps[:2], b.Vars[:1]
	b.Steps[0].Arms = b.Steps[0].Arms[:1]
	s := api.State{Visit: 3, Tries: 1, Offset: 5, Vars: texts("a")}
	is(t, b, s, true)
	is(t, b, api.State{Step: 2, Visit: 3, Vars: texts("a")}, false)
	is(t, b, api.State{Visit: 3, Vars: texts("a", "b", "c")[:1]}, true)
	can(t, b, s, outcome(3, 1, 6, 0, "x"), true)
	can(t, b, s, outcome(3, api.Done, 6, -1, ""), false)
	s.Step = 1
	can(t, b, s, outcome(3, 2, 6, 1, "x"), false)
	l := puts(t, point(s), intent(3, 1, 1), intent(3, 1, 1))
	isReached(t, b, l[:2], api.State{Step: 1, Visit: 3, Tries: 2, Offset: 5, Vars: texts("a")})
	isTorn(t, b, l)
}

// A nil list and an empty one are equivalent.
func TestNilAndEmpty(t *testing.T) {
	for _, vars := range [][][]byte{nil, {}} {
		for _, value := range [][]byte{nil, {}} {
			for _, names := range [][]string{nil, {}} {
				for _, arms := range [][]api.Arm{nil, {}} {
					b := api.Book{Most: 5, Vars: names, Steps: []api.Step{{Arms: arms}}}
					s := api.State{Visit: 1, Tries: 1, Vars: vars}
					r := record.Rec{Kind: record.Outcome, Visit: 1, Var: -1, Value: value, S: api.State{Vars: vars}}
					leads(t, b, s, r, api.State{Visit: 2})
					is(t, b, s, true)
				}
			}
			s := at(1, 3, 1, 5)
			s.Vars = [][]byte{value, value, value}
			is(t, ordinary(), s, true)
			leads(t, ordinary(), s, record.Rec{Kind: record.Outcome, Visit: 3, To: 2, Offset: 6, Var: 1, Value: value}, api.State{Step: 2, Visit: 4, Offset: 6, Vars: texts("", "", "")})
		}
	}
	for _, steps := range [][]api.Step{nil, {}} {
		is(t, api.Book{Most: 5, Steps: steps}, api.State{Visit: 1}, false)
	}
}

// The same memory with other things in it is another argument.
func TestMemoryThatIsUsedAgain(t *testing.T) {
	b, s := ordinary(), at(1, 3, 1, 5)
	r := outcome(3, 2, 6, 1, "x")
	first, _ := fold.Next(b, s, r)
	want := copied(first)
	for i := range 256 {
		s.Vars[0][1], r.Value[0] = byte(i), byte(255-i)
		leads(t, b, s, r, api.State{Step: 2, Visit: 4, Offset: 6, Vars: [][]byte{{'o', byte(i), 'e'}, {byte(255 - i)}, []byte("three")}})
		b.Steps[1].Arms[0].To = i%4 - 1
		can(t, b, s, r, i%4 == 3)
		b.Steps[1].Arms[0].To = 2
		b.Steps[1].Try = i%3 - 1
		is(t, b, s, i%3 > 0)
		b.Steps[1].Try = 2
		s.Vars[2] = make([]byte, i)
		is(t, b, s, i <= 100)
		s.Vars[2] = []byte("three")
	}
	if !same(first, want) {
		t.Fatalf("%s has become %s", shown(want), shown(first))
	}
}

func TestEarlierCallsDoNotMatter(t *testing.T) {
	type answer struct {
		start, after, all string
		valid             bool
		e, f              api.Errno
	}
	lists := journals(t)
	ask := func(i int, x situation) answer {
		after, e := fold.Next(x.b, x.s, x.r)
		list := lists[i%len(lists)]
		all, f := fold.All(list.b, list.l)
		return answer{shown(fold.Start(x.b)), shown(after), shown(all), fold.Right(x.b, x.s), e, f}
	}
	l := some()
	for i, x := range l {
		want := ask(i, x)
		for k, other := range l {
			ask(k, other)
			if got := ask(i, x); got != want {
				t.Fatalf("%v; behind other calls %v", want, got)
			}
		}
	}
}

// Calls that go on at the same time do not touch each other, also if they are given the same memory.
func TestCallsAtTheSameTime(t *testing.T) {
	b, s, r := ordinary(), at(1, 3, 1, 5), outcome(3, 2, 6, 1, "x")
	l := puts(t, point(s), intent(3, 1, 1), r)
	results := make(chan string)
	for i := range 8 {
		go func() {
			said := ""
			for range 500 {
				after, e := fold.Next(b, s, r)
				all, f := fold.All(b, l)
				own, g := fold.Next(b, at(2, 3, i, 5), intent(3, 2, i))
				said = fmt.Sprint(i, shown(after), e, shown(all), f, shown(own), g, fold.Right(b, s), shown(fold.Start(b)))
			}
			results <- said
		}()
	}
	var got []string
	for range 8 {
		got = append(got, <-results)
	}
	slices.Sort(got)
	left := api.State{Step: 2, Visit: 4, Offset: 6, Vars: texts("one", "x", "three")}
	for i, said := range got {
		own, g := at(2, 3, i+1, 5), api.OK
		if i > 5 {
			own, g = api.State{}, api.ErrTorn
		}
		want := fmt.Sprint(i, shown(left), api.OK, shown(left), api.OK, shown(own), g, true, shown(slowStart(b)))
		if said != want {
			t.Errorf("the calls returned %q, not %q", said, want)
		}
	}
}
