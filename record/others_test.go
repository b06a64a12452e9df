package record_test

import (
	"slices"
	"testing"

	"davit/api"
	"davit/record"
)

// numbers yields the same numbers in every test run.
type numbers uint64

func (n *numbers) below(most int) int {
	*n = *n*6364136223846793005 + 1442695040888963407
	return int(uint32(*n>>33)) % most
}

// rarely reports true once in so many times.
func (n *numbers) rarely(times int) bool {
	return n.below(times) == 0
}

// within returns a number of a range, often one of its ends.
func (n *numbers) within(least, most int) int {
	switch n.below(4) {
	case 0:
		return least
	case 1:
		return most
	}
	return least + n.below(most-least+1)
}

// any returns any number, mostly one that is not far from 0.
func (n *numbers) any() int {
	if n.rarely(2) {
		return n.below(40) - 5
	}
	l := anyNumbers()
	return l[n.below(len(l))]
}

func (n *numbers) text(size int) []byte {
	if size == 0 && n.rarely(2) {
		return nil
	}
	b := make([]byte, size)
	for i := range b {
		b[i] = byte(n.below(256))
	}
	return b
}

// record returns a valid record.
func (n *numbers) record() record.Rec {
	r := record.Rec{Kind: 1 + n.below(3)}
	for _, c := range line(r.Kind) {
		*numberOf(c.name).of(&r) = n.within(c.least, c.most)
	}
	switch {
	case r.Kind == record.Point:
		for range n.below(9) {
			r.S.Vars = append(r.S.Vars, n.text(n.below(1+n.within(0, 100))))
		}
	case r.Kind == record.Outcome && r.Var >= 0:
		r.Value = n.text(n.within(0, 100))
	}
	return r
}

// disturb sets a part of a record to anything.
func (n *numbers) disturb(r *record.Rec) {
	l := allNumbers()
	switch n.below(8) {
	case 0:
		r.Kind = n.any()
	case 1:
		r.Kind = 1 + n.below(3)
	case 2:
		r.Value = n.text(n.below(110))
	case 3:
		r.S.Vars = append(r.S.Vars, n.text(n.below(110)))
	case 4:
		r.S.Vars = nil
	default:
		*l[n.below(len(l))].of(r) = n.any()
	}
}

// anything returns a record of any fields.
func (n *numbers) anything() record.Rec {
	r := record.Rec{Kind: n.below(6) - 1}
	for _, x := range allNumbers() {
		if n.rarely(3) {
			*x.of(&r) = n.any()
		}
	}
	for range n.below(3) * n.below(6) {
		r.S.Vars = append(r.S.Vars, n.text(n.below(110)))
	}
	r.Value = n.text(n.below(2) * n.below(110))
	return r
}

// isOften fails if a thing was seen too rarely.
func isOften(t *testing.T, times int, what string) {
	t.Helper()
	if times < 1000 {
		t.Errorf("only %d %s", times, what)
	}
}

func TestAnyRecords(t *testing.T) {
	n := numbers(1)
	seen := map[bool]int{}
	for range 40000 {
		r := n.record()
		if !agrees(t, r) {
			t.Fatalf("the record was made to be valid: %s", shown(r))
		}
		for range 1 + n.below(3) {
			n.disturb(&r)
		}
		seen[agrees(t, r)]++
		agrees(t, n.anything())
	}
	isOften(t, seen[true], "valid records")
	isOften(t, seen[false], "other records")
}

// Valid records with two fields changed: one of them may not hide the other.
func TestTwoNumbersAtOnce(t *testing.T) {
	values := []int{-1 << 32, -256, -4, -3, -2, -1, 0, 1, 5, 6, 7, 8, 29, 30, 256, 1001, 1002, 1 << 31, 1 << 32}
	for _, r := range ordinary() {
		for i, n := range allNumbers() {
			for _, m := range allNumbers()[:i] {
				for _, x := range values {
					for _, y := range values {
						s := r
						*n.of(&s), *m.of(&s) = x, y
						agrees(t, s)
					}
				}
			}
		}
	}
}

// Bytes that were encodings, with some of them changed.
func TestAnyChangedBytes(t *testing.T) {
	n := numbers(3)
	seen := map[bool]int{}
	for range 100000 {
		b := slowPut(n.record())
		for range 1 + n.below(3) {
			i := n.below(len(b))
			if n.rarely(2) {
				i = n.below(min(len(b), 12))
			}
			switch n.below(6) {
			case 0:
				b = slices.Insert(b, i, byte(n.below(256)))
			case 1:
				b = append(slices.Delete(b, i, i+1), 0)
			case 2:
				b = slices.Concat(b[:i], slowPut(n.record())[i%5:])
			case 3:
				b[i]++
			case 4:
				b[i] = byte(n.below(9))
			case 5:
				b[i] = byte(n.below(256))
			}
		}
		seen[reads(t, b)]++
	}
	isOften(t, seen[true], "encodings")
	isOften(t, seen[false], "others")
}

// Any bytes, mostly small ones, which often begin with a kind, and have as many bytes as an encoding of it has at least.
func TestAnyBytes(t *testing.T) {
	n := numbers(4)
	seen := map[bool]int{}
	for range 200000 {
		b := n.text(n.below(30))
		most := 1 + n.below(1+n.below(256))
		for i := range b {
			b[i] = byte(int(b[i]) % most)
		}
		if kind := n.below(5); kind >= 1 && kind <= 3 && len(b) > 11 {
			b[0] = byte(kind)
			b = b[:[]int{0, 10, 5, 11}[kind]]
		}
		seen[reads(t, b)]++
	}
	isOften(t, seen[true], "encodings")
	isOften(t, seen[false], "others")
}

// All bytes up to a length, over those that matter most.
func TestAllShortBytes(t *testing.T) {
	some := []byte{0, 1, 2, 3, 5, 255}
	var b []byte
	var all func(size int)
	all = func(size int) {
		reads(t, b)
		if size == 0 {
			return
		}
		for _, c := range some {
			b = append(b, c)
			all(size - 1)
			b = b[:len(b)-1]
		}
	}
	all(7)
	b = []byte{1, 3, 0, 1, 0, 0, 0, 0, 0}
	all(6)
	b = []byte{3, 0, 1, 3, 0, 0, 0, 0}
	all(6)
}

// The errors of calls with the greatest arguments that are ordinary to write down.
func TestLongArguments(t *testing.T) {
	for _, first := range []byte{0, 1, 2, 3, 4, 255} {
		for _, fill := range []byte{0, 1, 255} {
			b := make([]byte, 3000000)
			for i := range b {
				b[i] = fill
			}
			b[0] = first
			none(t, b)
		}
	}
	huge := make([][]byte, 1000000)
	wrong(t, record.Rec{Kind: record.Point, S: api.State{Visit: 1, Vars: huge}})
	wrong(t, record.Rec{Kind: record.Intent, Visit: 1, S: api.State{Vars: huge}})
	wrong(t, record.Rec{Kind: record.Outcome, Visit: 1, Value: make([]byte, 3000000)})
}
