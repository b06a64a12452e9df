package record_test

import (
	"bytes"
	"fmt"
	"reflect"
	"slices"
	"testing"

	"davit/api"
	"davit/record"
)

// others returns records that are not valid, for each reason another one.
func others() []record.Rec {
	l := []record.Rec{
		{},
		{Kind: record.Point},
		{Kind: record.Intent, Visit: 1, Step: 30},
		{Kind: record.Outcome, Visit: 1, Var: -1, Value: []byte("x")},
		{Kind: record.Point, S: api.State{Visit: 1, Vars: texts("a", "b", "c", "d", "e", "f", "g", "h", "i")}},
		{Kind: record.Point, S: api.State{Visit: 1, Vars: [][]byte{[]byte("a"), bytes.Repeat([]byte("b"), 101)}}},
		{Kind: record.Point, S: api.State{Visit: 1, Vars: texts("a")}, Value: []byte("b")},
		{Kind: record.Intent, Visit: 1, S: api.State{Vars: texts("a")}, Value: []byte("b")},
		{Kind: record.Outcome, Visit: 1, S: api.State{Vars: texts("a")}, Value: bytes.Repeat([]byte("b"), 101)},
	}
	n := numbers(5)
	for range 20 {
		l = append(l, n.anything())
	}
	return l
}

// roomy returns a copy of a record in new memory, in which other things stand behind the end of each list, so that an append to it would be seen.
func roomy(r record.Rec) record.Rec {
	more := func(b []byte) []byte { return append(bytes.Clone(b), "\x01\x02\x03\x04"...)[:len(b)] }
	r.Value = more(r.Value)
	var vars [][]byte
	for _, v := range r.S.Vars {
		vars = append(vars, more(v))
	}
	r.S.Vars = append(vars, []byte("one"), []byte("two"))[:len(vars)]
	return r
}

// whole returns a copy of all memory of a record that roomy returned, also of what is behind the ends of its lists.
func whole(r record.Rec) []any {
	l := []any{len(r.Value), bytes.Clone(r.Value[:cap(r.Value)]), len(r.S.Vars)}
	for _, v := range r.S.Vars[:cap(r.S.Vars)] {
		l = append(l, len(v), bytes.Clone(v[:cap(v)]))
	}
	return l
}

// spoil changes all memory of a record.
func spoil(r record.Rec) {
	clear(r.Value[:cap(r.Value)])
	for _, v := range r.S.Vars[:cap(r.S.Vars)] {
		clear(v[:cap(v)])
	}
	clear(r.S.Vars[:cap(r.S.Vars)])
}

// copied returns a copy of a record in new memory.
func copied(r record.Rec) record.Rec {
	r.Value, r.S.Vars = bytes.Clone(r.Value), slices.Clone(r.S.Vars)
	for i, v := range r.S.Vars {
		r.S.Vars[i] = bytes.Clone(v)
	}
	return r
}

func TestRecordsAreLeftAlone(t *testing.T) {
	for _, r := range append(some(), others()...) {
		given := roomy(r)
		before := whole(given)
		valid := record.May(given)
		b, e := record.Put(given)
		if !reflect.DeepEqual(whole(given), before) {
			t.Fatalf("the record was changed: %s", shown(r))
		}
		// If the bytes or a later call used the record's memory, they would change with it.
		want := bytes.Clone(b)
		spoil(given)
		if !bytes.Equal(b, want) {
			t.Fatalf("Put(%s): % x changed with the record to % x", shown(r), want, b)
		}
		again, f := record.Put(r)
		if !bytes.Equal(again, want) || f != e || record.May(r) != valid {
			t.Fatalf("Put(%s): % x, error %d; and later % x, error %d", shown(r), want, e, again, f)
		}
	}
}

func TestBytesAreLeftAlone(t *testing.T) {
	for _, r := range append(some(), others()...) {
		given := append(slowPut(r), 9, 9, 9, 9)
		before := bytes.Clone(given)
		b := given[:len(given)-4]
		got, e := record.Get(b)
		if !bytes.Equal(given, before) {
			t.Fatalf("Get(% x) changed the bytes to % x", before, given)
		}
		want := copied(got)
		clear(given)
		if !same(got, want) {
			t.Fatalf("Get: %s changed with the bytes to %s", shown(want), shown(got))
		}
		again, f := record.Get(before[:len(b)])
		if !same(again, want) || f != e {
			t.Fatalf("Get: %s, error %d; and later %s, error %d", shown(want), e, shown(again), f)
		}
	}
}

func TestBytesAreNewMemory(t *testing.T) {
	for _, r := range append(some(), others()...) {
		given := roomy(r)
		before := whole(given)
		one, _ := record.Put(given)
		other, e := record.Put(given)
		want := bytes.Clone(other)
		overwrite(one)
		if !bytes.Equal(other, want) {
			t.Fatalf("Put(%s): the bytes of two calls share memory", shown(r))
		}
		if !reflect.DeepEqual(whole(given), before) {
			t.Fatalf("Put(%s): the bytes share memory with the record", shown(r))
		}
		if again, f := record.Put(given); !bytes.Equal(again, want) || f != e {
			t.Fatalf("Put(%s): % x, and later % x", shown(r), want, again)
		}
	}
}

// overwrite changes bytes, and what an append to them would reach.
func overwrite(b []byte) {
	_ = append(b, "\x01\x02\x03\x04\x05\x06\x07\x08"...)
	clear(b)
}

// isAlone checks that no list of a record shares memory with another one of it: each is changed, and put back as another list, while the others stay.
func isAlone(t *testing.T, r record.Rec) {
	t.Helper()
	want := copied(r)
	for i := range r.S.Vars {
		overwrite(r.S.Vars[i])
		r.S.Vars[i] = copied(want).S.Vars[i]
		if !same(r, want) {
			t.Fatalf("the variable %d shares memory in %s", i, shown(want))
		}
	}
	overwrite(r.Value)
	r.Value = want.Value
	if !same(r, want) {
		t.Fatalf("the value shares memory in %s", shown(want))
	}
	_ = append(r.S.Vars, []byte("?"), []byte("?"))
	clear(r.S.Vars)
	r.S.Vars = want.S.Vars
	if !same(r, want) {
		t.Fatalf("the variables share memory in %s", shown(want))
	}
}

func TestRecordsAreNewMemory(t *testing.T) {
	for _, r := range some() {
		b := slowPut(r)
		before := bytes.Clone(b)
		one, _ := record.Get(b)
		other, _ := record.Get(b)
		isAlone(t, one)
		if !bytes.Equal(b, before) {
			t.Fatalf("Get(% x): the record shares memory with the bytes", before)
		}
		if !same(other, r) {
			t.Fatalf("Get(% x): the records of two calls share memory", before)
		}
		if again, e := record.Get(b); !same(again, r) || e != api.OK {
			t.Fatalf("Get(% x): %s, and later %s, error %d", before, shown(r), shown(again), e)
		}
	}
}

// Parts of a record may be one piece of memory, those of the one that is read back are not.
func TestRecordThatSharesMemory(t *testing.T) {
	text := []byte("abcd")
	r := record.Rec{Kind: record.Point, S: api.State{Visit: 1, Vars: [][]byte{text, text[:2], text[1:], text[:0], text}}}
	is(t, r, true)
	b, _ := record.Put(r)
	back, _ := record.Get(b)
	isAlone(t, back)
	if string(text) != "abcd" || !slices.EqualFunc(r.S.Vars, texts("abcd", "ab", "bcd", "", "abcd"), bytes.Equal) {
		t.Fatalf("the record is now %s", shown(r))
	}
}

// The same memory with other things in it is another argument.
func TestMemoryThatIsUsedAgain(t *testing.T) {
	r, b := aPoint(), slowPut(anIntent())
	first, _ := record.Put(r)
	before := bytes.Clone(first)
	for i := range 256 {
		r.S.Vars[0][1], r.S.Vars[2][0] = byte(i), byte(255-i)
		is(t, r, true)
		r.S.Vars[1] = make([]byte, i)
		is(t, r, i <= 100)
		r.S.Vars[1] = nil
		b[3], b[4] = byte(i), byte(i%7)
		if reads(t, b) != (i <= 29 && i%7 <= 5) {
			t.Fatalf("Get(% x): not as the table says", b)
		}
	}
	if !bytes.Equal(first, before) {
		t.Fatalf("% x has become % x", before, first)
	}
}

// A nil list and an empty one are equivalent.
func TestNilAndEmpty(t *testing.T) {
	for _, kind := range []int{record.Point, record.Intent, record.Outcome} {
		for _, vars := range [][][]byte{nil, {}} {
			for _, value := range [][]byte{nil, {}} {
				r := ordinary()[kind-1]
				r.S.Vars, r.Value = vars, value
				is(t, r, true)
				if r.Kind == record.Point {
					r.S.Vars = [][]byte{value, value}
					is(t, r, true)
				}
			}
		}
	}
	for _, b := range [][]byte{nil, {}} {
		none(t, b)
	}
}

func TestEarlierCallsDoNotMatter(t *testing.T) {
	l := append(some(), others()...)
	type answer struct {
		may   bool
		bytes string
		e     api.Errno
		back  string
		f     api.Errno
	}
	ask := func(r record.Rec) answer {
		b, e := record.Put(r)
		back, f := record.Get(slowPut(r))
		return answer{record.May(r), string(b), e, shown(back), f}
	}
	for _, r := range l {
		want := ask(r)
		for _, other := range l {
			ask(other)
			if got := ask(r); got != want {
				t.Fatalf("%s: %v; behind %s %v", shown(r), want, shown(other), got)
			}
		}
	}
}

// Calls that go on at the same time do not touch each other, also if they are given the same memory.
func TestCallsAtTheSameTime(t *testing.T) {
	shared, encoded := aPoint(), slowPut(anOutcome())
	results := make(chan string)
	for i := range 8 {
		go func() {
			told := ""
			for range 500 {
				b, e := record.Put(shared)
				r, f := record.Get(encoded)
				own, g := record.Put(record.Rec{Kind: record.Intent, Visit: 1, Try: i})
				told = fmt.Sprint(i, b, e, shown(r), f, own, g, record.May(shared))
			}
			results <- told
		}()
	}
	var got []string
	for range 8 {
		got = append(got, <-results)
	}
	slices.Sort(got)
	for i, told := range got {
		own, g := []byte{2, 0, 1, 0, byte(i)}, api.OK
		if i > 5 {
			own, g = nil, api.ErrArg
		}
		if want := fmt.Sprint(i, slowPut(shared), api.OK, shown(anOutcome()), api.OK, own, g, true); told != want {
			t.Errorf("the calls returned %q, not %q", told, want)
		}
	}
}
