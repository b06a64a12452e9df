package fold_test

import (
	"bytes"
	"slices"
	"testing"

	"davit/api"
	"davit/fold"
	"davit/record"
)

// journal is what a run has recorded: states[i] is the state after records[:i], and records[0] is the Point of states[1].
type journal struct {
	records []record.Rec
	states  []api.State
}

func (j *journal) add(r record.Rec, after api.State) {
	j.records, j.states = append(j.records, r), append(j.states, after)
}

// last returns the state after all of the records.
func (j *journal) last() api.State {
	return j.states[len(j.states)-1]
}

// journal returns a journal from s on, which Next builds record by record, until its run ends or there are most records.
func (n *numbers) journal(t *testing.T, b api.Book, s api.State, most int) *journal {
	t.Helper()
	j := &journal{states: []api.State{slowStart(b)}}
	j.add(point(s), s)
	for len(j.records) < most && !hasEnded(j.last()) {
		l := followers(b, j.last())
		l = slices.DeleteFunc(l, func(r record.Rec) bool { return !record.May(r) })
		r := l[n.below(len(l))]
		// An end is what most ways lead to, so that a long run rarely takes one.
		for i := 0; i < 5 && r.Kind == record.Outcome && r.To < 0; i++ {
			r = l[n.below(len(l))]
		}
		after, e := follows(t, b, j.last(), r)
		if e != api.OK {
			t.Fatalf("Next(%s, %s, %s): error %d", told(b), shown(j.last()), named(r), e)
		}
		j.add(r, after)
	}
	return j
}

// roundBook returns a book whose run goes on for long.
func roundBook(most int) api.Book {
	return api.Book{Most: most, Vars: []string{"u", "v"}, Steps: []api.Step{
		{Tag: api.Idem, Try: 5, Else: 1, Arms: []api.Arm{{Var: 0, To: 1}, {Var: -1, To: 2}}},
		{Tag: api.Once, Else: 2, Arms: []api.Arm{{Var: 1, To: 0}, {Var: 0, To: 2}, {Var: -1, To: 1}}},
		{Try: 2, Else: 0, Arms: []api.Arm{{Var: -1, To: 2}, {Var: 1, To: 1}, {Var: -1, To: api.Done}}},
	}}
}

// isReached checks that All returns this state.
func isReached(t *testing.T, b api.Book, l [][]byte, want api.State) {
	t.Helper()
	if s, e := folds(t, b, l); e != api.OK || !same(s, want) {
		t.Fatalf("All(%s, %d encodings): %s, error %d, not %s", told(b), len(l), shown(s), e, shown(want))
	}
}

// isTorn checks that All returns ErrTorn, and no state.
func isTorn(t *testing.T, b api.Book, l [][]byte) {
	t.Helper()
	if s, e := folds(t, b, l); e != api.ErrTorn {
		t.Fatalf("All(%s, %d encodings, % x): %s, error %d", told(b), len(l), l[:min(len(l), 9)], shown(s), e)
	}
}

func TestNoElements(t *testing.T) {
	for _, b := range books() {
		isReached(t, b, nil, slowStart(b))
		isReached(t, b, [][]byte{}, slowStart(b))
		isReached(t, b, make([][]byte, 3)[:0], slowStart(b))
		isTorn(t, b, [][]byte{nil})
		isTorn(t, b, [][]byte{{}})
	}
}

func TestPointAlone(t *testing.T) {
	n := numbers(4)
	for range 3000 {
		b := n.book()
		s := n.state(b)
		isReached(t, b, puts(t, point(s)), s)
	}
	b := ordinary()
	for step := -3; step < 3; step++ {
		isReached(t, b, puts(t, point(at(step, 10, 0, 77))), at(step, 10, 0, 77))
	}
	isReached(t, b, puts(t, point(at(2, 10, 6, 77))), at(2, 10, 6, 77))
	isReached(t, b, puts(t, point(at(api.Fail, 11, 0, 77))), at(api.Fail, 11, 0, 77))
}

func TestFirstElementIsNoPoint(t *testing.T) {
	b := ordinary()
	start := point(fold.Start(b))
	for _, first := range []record.Rec{intent(1, 0, 0), intent(1, 0, 1), outcome(1, 1, 0, 0, ""), outcome(1, api.Fail, 0, -1, "")} {
		isTorn(t, b, puts(t, first))
		isTorn(t, b, puts(t, first, start))
		isTorn(t, b, puts(t, first, intent(1, 0, 0)))
		isTorn(t, b, puts(t, first, outcome(1, api.Fail, 0, -1, "")))
	}
	isReached(t, b, puts(t, start, intent(1, 0, 0), outcome(1, api.Fail, 0, -1, "")), api.State{Step: api.Fail, Visit: 2, Vars: texts("", "", "")})
}

func TestPointThatIsNotValidForBook(t *testing.T) {
	b := ordinary()
	vars := func(l ...string) api.State { return api.State{Visit: 1, Vars: texts(l...)} }
	for _, s := range []api.State{
		at(3, 1, 0, 0), at(29, 1, 0, 0), at(0, 11, 0, 0), at(api.Done, 12, 0, 0), at(0, 1001, 0, 0),
		at(0, 1, 2, 0), at(1, 1, 4, 0), at(api.Done, 1, 1, 0), at(api.Fail, 1, 6, 0),
		vars(), vars("a", "b"), vars("a", "b", "c", "d"), vars("", "", "", "", "", "", "", ""),
	} {
		is(t, b, s, false)
		isTorn(t, b, puts(t, point(s)))
		isTorn(t, b, puts(t, point(s), point(at(0, 1, 0, 0))))
		for _, r := range followers(b, s) {
			isTorn(t, b, puts(t, point(s), r))
		}
	}
	// The same journal is torn for a book of other steps or variables.
	l := puts(t, point(at(2, 1, 0, 0)), intent(1, 2, 0), intent(1, 2, 1))
	isReached(t, b, l, at(2, 1, 2, 0))
	for _, other := range []api.Book{
		{}, changed(func(b *api.Book) { b.Steps = b.Steps[:2] }), changed(func(b *api.Book) { b.Vars = b.Vars[:2] }),
		changed(func(b *api.Book) { b.Most = 0 }), changed(func(b *api.Book) { b.Steps[2].Try = 0 }), changed(func(b *api.Book) { b.Steps[2].Try = -2 }),
	} {
		isTorn(t, other, l)
	}
}

// Any journals, and each beginning of them.
func TestJournals(t *testing.T) {
	n := numbers(5)
	sizes := 0
	for range 1000 {
		b := n.book()
		s := slowStart(b)
		if n.rarely(2) {
			s = n.state(b)
		}
		j := n.journal(t, b, s, 40)
		l := puts(t, j.records...)
		for size := range len(l) + 1 {
			isReached(t, b, l[:size], j.states[size])
		}
		sizes += len(l)
	}
	isOften(t, sizes, 8000, "records")
}

func TestLongJournals(t *testing.T) {
	n := numbers(6)
	b := roundBook(1000)
	longest := 0
	for range 20 {
		j := n.journal(t, b, fold.Start(b), 5000)
		l := puts(t, j.records...)
		longest = max(longest, len(l))
		isReached(t, b, l, j.last())
		isTorn(t, b, append(l, l[0]))
		if hasEnded(j.last()) {
			isTorn(t, b, append(l, l[len(l)-1]))
			isTorn(t, b, append(l, put(t, outcome(min(j.last().Visit, 1001), api.Fail, j.last().Offset, -1, ""))))
		}
	}
	isOften(t, longest, 1000, "records in the longest journal")
}

// A run to the last visit of all.
func TestAllVisits(t *testing.T) {
	for _, most := range []int{1, 2, 100, 999, 1000} {
		b := changed(func(b *api.Book) { b.Most = most })
		s := fold.Start(b)
		s.Step = 1
		l := puts(t, point(s))
		for visit := 1; visit <= most; visit++ {
			l = append(l, put(t, intent(visit, 1, 0)), put(t, outcome(visit, 1, visit, -1, "")))
			want := api.State{Step: 1, Visit: visit + 1, Offset: visit, Vars: make([][]byte, 3)}
			if visit == most {
				want.Step = api.Fail
			}
			if visit%50 < 2 || visit > most-3 {
				isReached(t, b, l, want)
			}
		}
		isTorn(t, b, append(l, put(t, intent(most+1, 1, 0))))
	}
}

// The store begins a journal anew with the Point of a state: what follows is the same.
func TestJournalBegunAnew(t *testing.T) {
	n := numbers(7)
	for range 200 {
		b := n.book()
		j := n.journal(t, b, slowStart(b), 30)
		l := puts(t, j.records...)
		for i := 1; i < len(j.states); i++ {
			anew := append(puts(t, point(j.states[i])), l[i:]...)
			isReached(t, b, anew, j.last())
			// A Point stands at the beginning alone.
			isTorn(t, b, append(slices.Clone(l[:i]), anew...))
		}
	}
}

// At each place of a journal: instead of an element, ahead of it, and behind the last one.
func TestElementsThatAreNoEncodings(t *testing.T) {
	b := roundBook(20)
	n := numbers(8)
	j := n.journal(t, b, fold.Start(b), 25)
	l := puts(t, j.records...)
	isReached(t, b, l, j.last())
	others := [][]byte{nil, {}, {0}, {1}, {2}, {3}, {9}, {255}, make([]byte, 5), make([]byte, 512), make([]byte, 10000), []byte("step a")}
	for i := range len(l) + 1 {
		for _, x := range others {
			isTorn(t, b, slices.Insert(slices.Clone(l), i, x))
		}
		if i == len(l) {
			continue
		}
		own := l[i]
		for _, x := range append(others, own[:len(own)-1], own[1:], append(slices.Clone(own), 0), slices.Concat(own, own)) {
			changed := slices.Clone(l)
			changed[i] = x
			isTorn(t, b, changed)
		}
		// Each byte changed, in each way that its bits may be.
		for at := range own {
			for bit := range 8 {
				changed := slices.Clone(l)
				changed[i] = slices.Clone(own)
				changed[i][at] ^= 1 << bit
				folds(t, b, changed)
			}
		}
	}
}

// At each place of a journal: a record again, one left out, and two in the other order.
func TestRecordsThatCannotFollow(t *testing.T) {
	n := numbers(9)
	seen := map[api.Errno]int{}
	for range 60 {
		b := n.book()
		j := n.journal(t, b, slowStart(b), 25)
		l := puts(t, j.records...)
		for i := range l {
			for k := range len(l) + 1 {
				// No record can follow twice.
				if again := slices.Insert(slices.Clone(l), k, l[i]); i != 0 || k != 0 {
					isTorn(t, b, again)
				}
			}
			for k := i + 1; k <= len(l); k++ {
				_, e := folds(t, b, slices.Delete(slices.Clone(l), i, k))
				seen[e]++
			}
			if i > 0 {
				isTorn(t, b, l[i:])
				swapped := slices.Clone(l)
				swapped[i], swapped[i-1] = swapped[i-1], swapped[i]
				isTorn(t, b, swapped)
			}
		}
	}
	isOften(t, seen[api.OK], 100, "journals with records left out that are journals")
	isOften(t, seen[api.ErrTorn], 1000, "that are none")
}

// At each place of a journal, a record with one field changed; what follows it can't mend it.
func TestEachNumberOfEachRecord(t *testing.T) {
	n := numbers(10)
	seen := map[api.Errno]int{}
	for range 300 {
		b := n.book()
		j := n.journal(t, b, slowStart(b), 20)
		l := puts(t, j.records...)
		for i, r := range j.records {
			for _, d := range []int{-1, 1} {
				for _, change := range []func(r *record.Rec){
					func(r *record.Rec) { r.Visit += d },
					func(r *record.Rec) { r.Step += d },
					func(r *record.Rec) { r.Try += d },
					func(r *record.Rec) { r.To += d },
					func(r *record.Rec) { r.Offset += d },
					func(r *record.Rec) { r.Var += d },
					func(r *record.Rec) { r.S.Step += d },
					func(r *record.Rec) { r.S.Visit += d },
					func(r *record.Rec) { r.S.Tries += d },
				} {
					other := r
					change(&other)
					x, e := record.Put(other)
					if e != api.OK {
						continue
					}
					changed := slices.Clone(l)
					changed[i] = x
					_, e = folds(t, b, changed)
					seen[e]++
					folds(t, b, changed[:i+1])
				}
			}
		}
	}
	isOften(t, seen[api.OK], 500, "journals with a number changed that are journals")
	isOften(t, seen[api.ErrTorn], 2000, "that are none")
}

// P16.3 for any list that is a journal: visits increase by one, and between two Intents of the same visit there is no Outcome.
func TestVisitsOfJournals(t *testing.T) {
	n := numbers(11)
	for range 20000 {
		b := n.book()
		j := n.journal(t, b, slowStart(b), 10)
		l := j.records
		for range n.below(3) {
			i := 1 + n.below(len(j.records))
			l = slices.Insert(slices.Clone(l), i, n.record(b, j.states[i]))
		}
		var all [][]byte
		for _, r := range l {
			x, e := record.Put(r)
			if e != api.OK {
				x = nil
			}
			all = append(all, x)
		}
		if _, e := folds(t, b, all); e == api.OK {
			increases(t, b, l)
		}
	}
}

func increases(t *testing.T, b api.Book, l []record.Rec) {
	t.Helper()
	outcomes := map[int]int{}
	visit := l[0].S.Visit
	for i, r := range l[1:] {
		if r.Visit != visit {
			t.Fatalf("All(%s): the record %d is %s, at the visit %d", told(b), i+1, named(r), visit)
		}
		if r.Kind == record.Intent && outcomes[r.Visit] > 0 {
			t.Fatalf("All(%s): the record %d is %s, behind an Outcome", told(b), i+1, named(r))
		}
		if r.Kind == record.Outcome {
			outcomes[r.Visit]++
			visit++
		}
	}
	for v, times := range outcomes {
		if times > 1 {
			t.Fatalf("All(%s): %d Outcomes of the visit %d", told(b), times, v)
		}
	}
}

// Lists of any encodings and other bytes.
func TestAnyLists(t *testing.T) {
	n := numbers(12)
	seen := map[api.Errno]int{}
	for range 50000 {
		b := n.anyBook()
		s := n.state(b)
		var l [][]byte
		for i := range n.below(6) {
			r := n.record(b, s)
			if i == 0 && !n.rarely(8) {
				r = point(s)
			}
			x, e := record.Put(r)
			if e != api.OK || n.rarely(10) {
				x = bytes.Repeat([]byte{byte(n.below(4))}, n.below(12))
			}
			l = append(l, x)
			if after, e := slowNext(b, s, r); e == api.OK {
				s = after
			}
		}
		_, e := folds(t, b, l)
		seen[e]++
	}
	isOften(t, seen[api.OK], 5000, "journals")
	isOften(t, seen[api.ErrTorn], 5000, "others")
}

// All lists of up to four of some records.
func TestAllShortLists(t *testing.T) {
	b := api.Book{Most: 2, Vars: []string{"v"}, Steps: []api.Step{{Try: 1, Else: 0, Arms: []api.Arm{{Var: 0, To: -1}}}}}
	some := puts(t,
		point(fold.Start(b)), point(api.State{Visit: 2, Tries: 2, Offset: 3, Vars: texts("x")}), point(api.State{Visit: 3, Vars: texts("x")}),
		point(api.State{Step: -1, Visit: 3, Vars: texts("x")}), intent(1, 0, 0), intent(1, 0, 1), intent(2, 0, 0),
		outcome(1, 0, 0, -1, ""), outcome(2, 0, 0, -1, ""), outcome(2, 0, 3, -1, ""), outcome(1, -1, 3, 0, "y"), outcome(1, -2, 0, -1, ""),
	)
	some = append(some, []byte{7})
	var l [][]byte
	var all func(size int)
	all = func(size int) {
		folds(t, b, l)
		if size == 0 {
			return
		}
		for _, x := range some {
			l = append(l, x)
			all(size - 1)
			l = l[:len(l)-1]
		}
	}
	all(4)
}
