package record_test

import (
	"bytes"
	"fmt"
	"math"
	"slices"
	"strings"
	"testing"

	"davit/api"
	"davit/record"
)

// The calls have exactly these signatures, and a record has exactly these fields.
var (
	_ func(record.Rec) bool                = record.May
	_ func(record.Rec) ([]byte, api.Errno) = record.Put
	_ func([]byte) (record.Rec, api.Errno) = record.Get

	_ = struct {
		Kind                              int
		S                                 api.State
		Visit, Step, Try, To, Offset, Var int
		Value                             []byte
	}(record.Rec{})
)

// shown tells of a record in a message.
func shown(r record.Rec) string {
	return fmt.Sprintf("kind %d; step %d visit %d tries %d offset %d vars %.900q; visit %d step %d try %d to %d offset %d var %d value %.300q",
		r.Kind, r.S.Step, r.S.Visit, r.S.Tries, r.S.Offset, r.S.Vars, r.Visit, r.Step, r.Try, r.To, r.Offset, r.Var, r.Value)
}

// same reports whether two records have the same fields; a nil list is as good as an empty one.
func same(a, b record.Rec) bool {
	for _, n := range allNumbers() {
		if *n.of(&a) != *n.of(&b) {
			return false
		}
	}
	return a.Kind == b.Kind && slices.EqualFunc(a.S.Vars, b.S.Vars, bytes.Equal) && bytes.Equal(a.Value, b.Value)
}

// wrong checks that r is not valid.
func wrong(t *testing.T, r record.Rec) {
	t.Helper()
	if record.May(r) {
		t.Fatalf("May(%s): true", shown(r))
	}
	if b, e := record.Put(r); len(b) != 0 || e != api.ErrArg {
		t.Fatalf("Put(%s): % x, error %d", shown(r), b, e)
	}
}

// right checks that r is valid and has this encoding.
func right(t *testing.T, r record.Rec, want []byte) {
	t.Helper()
	if !record.May(r) {
		t.Fatalf("May(%s): false", shown(r))
	}
	b, e := record.Put(r)
	if e != api.OK || !bytes.Equal(b, want) {
		t.Fatalf("Put(%s): % x, error %d, not % x", shown(r), b, e, want)
	}
	// P15.2
	if back, e := record.Get(b); e != api.OK || !same(back, r) {
		t.Fatalf("Get(% x): %s, error %d, not %s", b, shown(back), e, shown(r))
	}
}

// none checks that b is the encoding of no record.
func none(t *testing.T, b []byte) {
	t.Helper()
	if r, e := record.Get(b); e != api.ErrForm || !same(r, record.Rec{}) {
		t.Fatalf("Get(% x): %s, error %d", b, shown(r), e)
	}
}

// agrees checks May and Put against the second ones; it reports whether r is valid.
func agrees(t *testing.T, r record.Rec) bool {
	t.Helper()
	if !slowMay(r) {
		wrong(t, r)
		return false
	}
	right(t, r, slowPut(r))
	return true
}

// reads checks Get against the second one; it reports whether b is an encoding.
func reads(t *testing.T, b []byte) bool {
	t.Helper()
	want, ok := slowGet(b)
	if !ok {
		none(t, b)
		return false
	}
	r, e := record.Get(b)
	if e != api.OK || !same(r, want) {
		t.Fatalf("Get(% x): %s, error %d, not %s", b, shown(r), e, shown(want))
	}
	// P15.2
	if back, e := record.Put(r); e != api.OK || !bytes.Equal(back, b) {
		t.Fatalf("Put(%s): % x, error %d, not % x", shown(r), back, e, b)
	}
	return true
}

// is checks that r is valid, or that it is not.
func is(t *testing.T, r record.Rec, valid bool) {
	t.Helper()
	if agrees(t, r) != valid {
		t.Fatalf("May(%s): %v", shown(r), !valid)
	}
}

func texts(l ...string) [][]byte {
	var vars [][]byte
	for _, s := range l {
		vars = append(vars, []byte(s))
	}
	return vars
}

func aPoint() record.Rec {
	return record.Rec{Kind: record.Point, S: api.State{Step: 4, Visit: 258, Tries: 2, Offset: 16909060, Vars: texts("ab", "", "c")}}
}

func anIntent() record.Rec {
	return record.Rec{Kind: record.Intent, Visit: 515, Step: 7, Try: 3}
}

func anOutcome() record.Rec {
	return record.Rec{Kind: record.Outcome, Visit: 772, To: 5, Offset: 84281096, Var: 6, Value: []byte("de")}
}

// ordinary returns one record of each kind, all of whose fields may be one more or one less.
func ordinary() []record.Rec {
	return []record.Rec{aPoint(), anIntent(), anOutcome()}
}

// some returns valid records of each kind.
func some() []record.Rec {
	all := ""
	for i := range 256 {
		all += string([]byte{byte(i)})
	}
	long := strings.Repeat("x", 100)
	return append(ordinary(),
		record.Rec{Kind: 1, S: api.State{Visit: 1}},
		record.Rec{Kind: 1, S: api.State{Step: -3, Visit: 1, Vars: [][]byte{nil}}},
		record.Rec{Kind: 1, S: api.State{Step: -2, Visit: 255, Tries: 1, Offset: 255, Vars: texts("\x00", "\x00\x00")}},
		record.Rec{Kind: 1, S: api.State{Step: -1, Visit: 256, Tries: 5, Offset: 65536, Vars: texts("", "", "", "", "", "", "", "")}},
		record.Rec{Kind: 1, S: api.State{Step: 29, Visit: 1001, Tries: 6, Offset: math.MaxInt32, Vars: texts(all[:100], all[100:200], all[156:], long, all[:100], long, long, long)}},
		record.Rec{Kind: 2, Visit: 1},
		record.Rec{Kind: 2, Visit: 1, Step: 2},
		record.Rec{Kind: 2, Visit: 256, Step: 29, Try: 5},
		record.Rec{Kind: 2, Visit: 1001, Step: 29, Try: 5},
		record.Rec{Kind: 3, Visit: 1, Var: -1},
		record.Rec{Kind: 3, Visit: 1, To: -3, Var: -1},
		record.Rec{Kind: 3, Visit: 1, To: -3},
		record.Rec{Kind: 3, Visit: 1000, To: -1, Offset: 1 << 24, Var: 7, Value: []byte("\x00\x01")},
		record.Rec{Kind: 3, Visit: 1001, To: 29, Offset: math.MaxInt32, Var: 7, Value: []byte(all[156:])},
		record.Rec{Kind: 3, Visit: 1001, To: 29, Offset: math.MaxInt32, Var: 0, Value: []byte(long)},
	)
}

func TestKinds(t *testing.T) {
	if record.Point != 1 || record.Intent != 2 || record.Outcome != 3 {
		t.Errorf("the kinds are %d, %d and %d", record.Point, record.Intent, record.Outcome)
	}
	kinds := []int{math.MinInt, -1 << 32, -256, -255, -254, -253, -3, -2, -1, 0, 4, 5, 6, 7, 255, 256, 257, 258, 259, 1<<32 + 1, 1<<32 + 2, 1<<32 + 3, math.MaxInt}
	for _, r := range append(some(), record.Rec{}, record.Rec{S: api.State{Visit: 1}}, record.Rec{Visit: 1}) {
		for _, kind := range kinds {
			r.Kind = kind
			is(t, r, false)
		}
		// A record whose other fields are zero may be of two kinds.
		for kind := 1; kind <= 3; kind++ {
			r.Kind = kind
			agrees(t, r)
		}
	}
	for i, r := range ordinary() {
		for kind := 1; kind <= 3; kind++ {
			r.Kind = kind
			is(t, r, kind == i+1)
		}
	}
	wrong(t, record.Rec{})
	wrong(t, record.Rec{Kind: record.Point})
	wrong(t, record.Rec{Kind: record.Intent})
	wrong(t, record.Rec{Kind: record.Outcome})
}

// Every byte as the first one: only three of them are kinds.
func TestFirstBytes(t *testing.T) {
	for _, r := range some() {
		b := slowPut(r)
		for first := range 256 {
			b[0] = byte(first)
			if reads(t, b) != (first == r.Kind) {
				t.Errorf("Get(% x): not as of the kind %d", b, r.Kind)
			}
		}
	}
}

func TestExample(t *testing.T) {
	right(t, record.Rec{Kind: record.Intent, Visit: 1, Step: 2, Try: 0}, []byte{2, 0, 1, 2, 0})
}

func TestEncodingOfPoint(t *testing.T) {
	for _, c := range []struct {
		s    api.State
		want []byte
	}{
		{api.State{Visit: 1}, []byte{1, 3, 0, 1, 0, 0, 0, 0, 0, 0}},
		{api.State{Step: -3, Visit: 1}, []byte{1, 0, 0, 1, 0, 0, 0, 0, 0, 0}},
		{api.State{Step: -1, Visit: 1, Vars: [][]byte{}}, []byte{1, 2, 0, 1, 0, 0, 0, 0, 0, 0}},
		{api.State{Step: 29, Visit: 1}, []byte{1, 32, 0, 1, 0, 0, 0, 0, 0, 0}},
		{api.State{Step: 7, Visit: 2, Tries: 3}, []byte{1, 10, 0, 2, 3, 0, 0, 0, 0, 0}},
		{api.State{Visit: 255}, []byte{1, 3, 0, 255, 0, 0, 0, 0, 0, 0}},
		{api.State{Visit: 256}, []byte{1, 3, 1, 0, 0, 0, 0, 0, 0, 0}},
		{api.State{Visit: 1001}, []byte{1, 3, 3, 233, 0, 0, 0, 0, 0, 0}},
		{api.State{Visit: 1, Tries: 6}, []byte{1, 3, 0, 1, 6, 0, 0, 0, 0, 0}},
		{api.State{Visit: 1, Offset: 16909060}, []byte{1, 3, 0, 1, 0, 1, 2, 3, 4, 0}},
		{api.State{Visit: 1, Offset: 2147483647}, []byte{1, 3, 0, 1, 0, 127, 255, 255, 255, 0}},
		{api.State{Visit: 1, Vars: [][]byte{nil}}, []byte{1, 3, 0, 1, 0, 0, 0, 0, 0, 1, 0, 0}},
		{api.State{Visit: 1, Vars: texts("a", "", "bc")}, []byte{1, 3, 0, 1, 0, 0, 0, 0, 0, 3, 0, 1, 97, 0, 0, 0, 2, 98, 99}},
		{api.State{Visit: 1, Vars: make([][]byte, 8)}, []byte{1, 3, 0, 1, 0, 0, 0, 0, 0, 8, 0, 0, 0, 0, 0, 0, 0, 0, 0, 0, 0, 0, 0, 0, 0, 0}},
		{api.State{Visit: 1, Vars: [][]byte{bytes.Repeat([]byte{9}, 100)}}, append([]byte{1, 3, 0, 1, 0, 0, 0, 0, 0, 1, 0, 100}, bytes.Repeat([]byte{9}, 100)...)},
		{aPoint().S, []byte{1, 7, 1, 2, 2, 1, 2, 3, 4, 3, 0, 2, 97, 98, 0, 0, 0, 1, 99}},
	} {
		right(t, record.Rec{Kind: record.Point, S: c.s}, c.want)
		is(t, record.Rec{Kind: record.Point, S: c.s}, true)
	}
}

func TestEncodingOfIntent(t *testing.T) {
	for _, c := range []struct {
		visit, step, try int
		want             []byte
	}{
		{1, 0, 0, []byte{2, 0, 1, 0, 0}},
		{2, 3, 4, []byte{2, 0, 2, 3, 4}},
		{255, 0, 0, []byte{2, 0, 255, 0, 0}},
		{256, 0, 0, []byte{2, 1, 0, 0, 0}},
		{515, 7, 3, []byte{2, 2, 3, 7, 3}},
		{1000, 28, 4, []byte{2, 3, 232, 28, 4}},
		{1001, 29, 5, []byte{2, 3, 233, 29, 5}},
	} {
		r := record.Rec{Kind: record.Intent, Visit: c.visit, Step: c.step, Try: c.try}
		right(t, r, c.want)
		is(t, r, true)
	}
}

func TestEncodingOfOutcome(t *testing.T) {
	for _, c := range []struct {
		visit, to, offset, v int
		value                string
		want                 []byte
	}{
		{1, 0, 0, -1, "", []byte{3, 0, 1, 3, 0, 0, 0, 0, 0, 0, 0}},
		{1, 0, 0, 0, "", []byte{3, 0, 1, 3, 0, 0, 0, 0, 1, 0, 0}},
		{2, -3, 5, -1, "", []byte{3, 0, 2, 0, 0, 0, 0, 5, 0, 0, 0}},
		{2, -2, 5, -1, "", []byte{3, 0, 2, 1, 0, 0, 0, 5, 0, 0, 0}},
		{2, -1, 5, 7, "", []byte{3, 0, 2, 2, 0, 0, 0, 5, 8, 0, 0}},
		{256, 29, 16909060, 3, "abc", []byte{3, 1, 0, 32, 1, 2, 3, 4, 4, 0, 3, 97, 98, 99}},
		{1001, 29, 2147483647, 7, "\x00\xff", []byte{3, 3, 233, 32, 127, 255, 255, 255, 8, 0, 2, 0, 255}},
		{772, 5, 84281096, 6, "de", []byte{3, 3, 4, 8, 5, 6, 7, 8, 7, 0, 2, 100, 101}},
		{1, 0, 0, 0, strings.Repeat("\n", 100), append([]byte{3, 0, 1, 3, 0, 0, 0, 0, 1, 0, 100}, bytes.Repeat([]byte{10}, 100)...)},
	} {
		r := record.Rec{Kind: record.Outcome, Visit: c.visit, To: c.to, Offset: c.offset, Var: c.v, Value: []byte(c.value)}
		right(t, r, c.want)
		is(t, r, true)
	}
}

// Each number alone, at both ends of its range, and one beyond each.
func TestEndsOfRanges(t *testing.T) {
	for _, c := range []struct {
		kind        int
		name        string
		least, most int
	}{
		{record.Point, "S.Step", -3, 29},
		{record.Point, "S.Visit", 1, 1001},
		{record.Point, "S.Tries", 0, 6},
		{record.Point, "S.Offset", 0, 1<<31 - 1},
		{record.Intent, "Visit", 1, 1001},
		{record.Intent, "Step", 0, 29},
		{record.Intent, "Try", 0, 5},
		{record.Outcome, "Visit", 1, 1001},
		{record.Outcome, "To", -3, 29},
		{record.Outcome, "Offset", 0, 1<<31 - 1},
		{record.Outcome, "Var", -1, 7},
	} {
		for _, r := range some() {
			if r.Kind != c.kind {
				continue
			}
			if c.name == "Var" {
				r.Value = nil
			}
			at := numberOf(c.name).of(&r)
			for _, x := range []int{c.least, c.most} {
				*at = x
				is(t, r, true)
			}
			for _, x := range []int{c.least - 1, c.most + 1, math.MinInt, math.MaxInt} {
				*at = x
				is(t, r, false)
			}
		}
	}
}

// anyNumbers returns those about zero and about the limits, and such as are far from them, also those whose lower bytes are in the range.
func anyNumbers() []int {
	l := []int{math.MinInt, math.MinInt + 1, math.MaxInt - 1, math.MaxInt}
	for _, x := range []int{0, 29, 100, 255, 1001, 65535, 1 << 24, 1 << 31, 1 << 32, 1 << 40, -256, -65536, -1 << 31, -1 << 32, math.MinInt + 8} {
		for d := -8; d <= 8; d++ {
			l = append(l, x+d)
		}
	}
	return l
}

// Any value of each number alone, whether the record's kind has it or not.
func TestEachNumber(t *testing.T) {
	for _, r := range some() {
		for _, n := range allNumbers() {
			at := n.of(&r)
			before := *at
			for _, x := range anyNumbers() {
				*at = x
				agrees(t, r)
			}
			*at = before
		}
		is(t, r, true)
	}
}

// A field that the table does not give for the kind, not zero, alone.
func TestFieldsOfOtherKinds(t *testing.T) {
	has := map[int]string{
		record.Point:   " S.Step S.Visit S.Tries S.Offset ",
		record.Intent:  " Visit Step Try ",
		record.Outcome: " Visit To Offset Var ",
	}
	for _, r := range some() {
		for _, n := range allNumbers() {
			if strings.Contains(has[r.Kind], " "+n.name+" ") {
				continue
			}
			for _, x := range anyNumbers() {
				*n.of(&r) = x
				is(t, r, x == 0)
			}
			*n.of(&r) = 0
		}
	}
}

func TestListsOfOtherKinds(t *testing.T) {
	for _, r := range some() {
		if r.Kind != record.Point {
			for _, vars := range [][][]byte{{nil}, {{}}, texts("x"), texts("", ""), make([][]byte, 9), make([][]byte, 256), {make([]byte, 101)}} {
				r.S.Vars = vars
				is(t, r, false)
			}
			for _, vars := range [][][]byte{nil, {}, texts("x")[:0]} {
				r.S.Vars = vars
				is(t, r, true)
			}
		}
		if r.Kind != record.Outcome {
			for _, value := range []string{"\x00", "x", "xy", strings.Repeat("x", 100), strings.Repeat("x", 101), strings.Repeat("x", 65536)} {
				r.Value = []byte(value)
				is(t, r, false)
			}
			for _, value := range [][]byte{nil, {}, []byte("x")[:0]} {
				r.Value = value
				is(t, r, true)
			}
		}
	}
}

func TestNumberOfVars(t *testing.T) {
	for _, size := range []int{0, 1, 2, 3, 4, 5, 6, 7, 8, 9, 10, 16, 100, 255, 256, 257, 264, 65536, 100000} {
		for _, text := range []string{"", "x", strings.Repeat("y", 100)} {
			r := aPoint()
			r.S.Vars = slices.Repeat(texts(text), size)
			is(t, r, size <= 8)
		}
	}
}

func TestSizeOfVars(t *testing.T) {
	for count := 1; count <= 8; count++ {
		for i := range count {
			for _, size := range []int{0, 1, 2, 10, 99, 100, 101, 102, 200, 255, 256, 300, 356, 65535, 65536, 65537, 65636} {
				r := aPoint()
				r.S.Vars = slices.Repeat(texts("abc"), count)
				r.S.Vars[i] = bytes.Repeat([]byte{7}, size)
				is(t, r, size <= 100)
			}
		}
	}
}

func TestSizeOfValue(t *testing.T) {
	for v := -1; v <= 7; v++ {
		for _, size := range []int{0, 1, 2, 10, 99, 100, 101, 102, 200, 255, 256, 300, 356, 65535, 65536, 65537, 65636, 1000000} {
			r := anOutcome()
			r.Var, r.Value = v, bytes.Repeat([]byte{7}, size)
			is(t, r, size == 0 || v >= 0 && size <= 100)
		}
	}
}

// A value without a variable is wrong also where a byte of it, or of its length, might be taken for something else.
func TestValueWithoutVariable(t *testing.T) {
	for _, value := range []string{"\x00", "x", "\x00\x00", strings.Repeat("x", 100)} {
		r := anOutcome()
		r.Var, r.Value = -1, []byte(value)
		is(t, r, false)
		b := slowPut(r)
		none(t, b)
		b[8] = 1
		if !reads(t, b) {
			t.Errorf("Get(% x): none", b)
		}
	}
	r := anOutcome()
	r.Var, r.Value = -1, nil
	is(t, r, true)
}

func TestBytesOfTexts(t *testing.T) {
	for c := range 256 {
		text := []byte{byte(c)}
		is(t, record.Rec{Kind: record.Point, S: api.State{Visit: 1, Vars: [][]byte{text, text, text}}}, true)
		is(t, record.Rec{Kind: record.Outcome, Visit: 1, Value: text}, true)
	}
}

func TestAllIntents(t *testing.T) {
	for visit := 1; visit <= 1001; visit++ {
		for step := range 30 {
			for try := range 6 {
				r := record.Rec{Kind: record.Intent, Visit: visit, Step: step, Try: try}
				right(t, r, []byte{2, byte(visit / 256), byte(visit % 256), byte(step), byte(try)})
			}
		}
	}
}

// All values of each byte of a number, and of the two bytes of a visit.
func TestAllBytesOfNumbers(t *testing.T) {
	for high := range 256 {
		for low := range 256 {
			visit := high*256 + low
			isVisit := visit >= 1 && visit <= 1001
			for _, b := range [][]byte{
				{1, 3, byte(high), byte(low), 0, 0, 0, 0, 0, 0},
				{2, byte(high), byte(low), 0, 0},
				{3, byte(high), byte(low), 0, 0, 0, 0, 0, 0, 0, 0},
			} {
				if reads(t, b) != isVisit {
					t.Fatalf("Get(% x): %v", b, !isVisit)
				}
			}
			if b := []byte{2, 0, 1, byte(high), byte(low)}; reads(t, b) != (high <= 29 && low <= 5) {
				t.Fatalf("Get(% x): not as the table says", b)
			}
			if b := []byte{1, byte(high), 0, 1, byte(low), 0, 0, 0, 0, 0}; reads(t, b) != (high <= 32 && low <= 6) {
				t.Fatalf("Get(% x): not as the table says", b)
			}
			if b := []byte{3, 0, 1, byte(high), 0, 0, 0, 0, byte(low), 0, 0}; reads(t, b) != (high <= 32 && low <= 8) {
				t.Fatalf("Get(% x): not as the table says", b)
			}
			if b := []byte{3, 0, 1, 3, byte(high), 1, 2, byte(low), 0, 0, 0}; reads(t, b) != (high <= 127) {
				t.Fatalf("Get(% x): not as the table says", b)
			}
			if b := []byte{1, 3, 0, 1, 0, byte(high), 1, 2, byte(low), 0}; reads(t, b) != (high <= 127) {
				t.Fatalf("Get(% x): not as the table says", b)
			}
		}
	}
}

// Any number of texts, each with its bytes: as many as are allowed, and more.
func TestNumberOfEncodedVars(t *testing.T) {
	for count := range 256 {
		for _, has := range []int{max(count-1, 0), count, count + 1} {
			b := []byte{1, 3, 0, 1, 0, 0, 0, 0, 0, byte(count)}
			for i := range has {
				b = append(b, 0, 1, byte(i))
			}
			if reads(t, b) != (has == count && count <= 8) {
				t.Fatalf("Get(% x): not as the table says", b)
			}
		}
	}
}

// Any length of a text, with as many bytes as it says, and with one less and one more.
func TestSizeOfEncodedTexts(t *testing.T) {
	for _, size := range []int{0, 1, 2, 50, 99, 100, 101, 102, 255, 256, 257, 356, 25600, 65535} {
		for _, has := range []int{max(size-1, 0), size, size + 1} {
			length := []byte{byte(size / 256), byte(size % 256)}
			text := slices.Concat(length, make([]byte, has))
			for _, b := range [][]byte{
				slices.Concat([]byte{1, 3, 0, 1, 0, 0, 0, 0, 0, 1}, text),
				slices.Concat([]byte{1, 3, 0, 1, 0, 0, 0, 0, 0, 2, 0, 1, 5}, text),
				slices.Concat([]byte{3, 0, 1, 3, 0, 0, 0, 0, 1}, text),
			} {
				if reads(t, b) != (has == size && size <= 100) {
					t.Fatalf("Get(% x): not as the table says", b[:min(len(b), 40)])
				}
			}
		}
	}
}

func TestEachByteChanged(t *testing.T) {
	for _, r := range some() {
		b := slowPut(r)
		for i := range b {
			own := b[i]
			for d := 1; d < 256; d++ {
				b[i] = own + byte(d)
				reads(t, b)
			}
			b[i] = own
		}
		if !reads(t, b) {
			t.Fatalf("Get(% x): none", b)
		}
	}
}

func TestEachBeginning(t *testing.T) {
	none(t, nil)
	none(t, []byte{})
	for _, r := range some() {
		b := slowPut(r)
		for size := range b {
			none(t, b[:size])
			// What lies behind the end of the list is not part of it.
			none(t, b[:size:size])
		}
	}
}

func TestMoreBehind(t *testing.T) {
	for _, r := range some() {
		b := slowPut(r)
		for c := range 256 {
			none(t, append(slices.Clone(b), byte(c)))
		}
		for _, more := range some() {
			none(t, slices.Concat(b, slowPut(more)))
			none(t, slices.Concat(b, slowPut(more)[1:]))
		}
		for size := 1; size <= 1000; size++ {
			none(t, slices.Concat(b, make([]byte, size)))
		}
		none(t, slices.Concat(b, make([]byte, 100000)))
	}
}

// A byte that is missing, or one too many, in the middle.
func TestEachByteLeftOutOrPutIn(t *testing.T) {
	for _, r := range some() {
		b := slowPut(r)
		for i := range b {
			reads(t, slices.Delete(slices.Clone(b), i, i+1))
			for _, c := range []byte{0, 1, 2, 3, 255} {
				reads(t, slices.Insert(slices.Clone(b), i, c))
			}
		}
	}
}

// P15.2: no encoding is a proper beginning of another one.
func TestNoEncodingBeginsAnother(t *testing.T) {
	n := numbers(2)
	var l [][]byte
	for range 3000 {
		r := n.record()
		if b, e := record.Put(r); e == api.OK {
			l = append(l, b)
		}
	}
	for _, r := range some() {
		b, _ := record.Put(r)
		l = append(l, b)
	}
	if len(l) < 1000 {
		t.Fatalf("only %d encodings", len(l))
	}
	for _, b := range l {
		for _, c := range l {
			if len(b) < len(c) && bytes.HasPrefix(c, b) {
				t.Fatalf("% x begins % x", b, c)
			}
		}
	}
}
