package frag_test

import (
	"bytes"
	"math"
	"slices"
	"testing"

	"davit/api"
	"davit/frag"
	"davit/sector"
)

// The calls have exactly these signatures.
var (
	_ func([]byte, uint32, uint32) ([]sector.Part, api.Errno) = frag.Cut
	_ func([]sector.Part) ([][]byte, int)                     = frag.Join
)

// numbers yields the same numbers in every test run.
type numbers uint64

func (n *numbers) next() uint32 {
	*n = *n*6364136223846793005 + 1442695040888963407
	return uint32(*n >> 32)
}

func (n *numbers) below(most int) int {
	return int(n.next()) % most
}

func (n *numbers) bytes(size int) []byte {
	b := make([]byte, size)
	for i := range b {
		b[i] = byte(n.next() >> 24)
	}
	return b
}

// edges are the lengths of records at which the number of parts, or whether there are any, may change.
func edges() []int {
	l := []int{0, 1, 2, 9859, 9860}
	for parts := 1; parts < 20; parts++ {
		l = append(l, parts*493-1, parts*493, parts*493+1)
	}
	return l
}

func part(flags int, body string) sector.Part {
	return sector.Part{Flags: flags, Body: []byte(body)}
}

func same(p, q sector.Part) bool {
	return p.Epoch == q.Epoch && p.Seq == q.Seq && p.Flags == q.Flags && bytes.Equal(p.Body, q.Body)
}

func sameRecords(l, m [][]byte) bool {
	return slices.EqualFunc(l, m, bytes.Equal)
}

// cloned returns a copy of l that shares nothing with it.
func cloned(l []sector.Part) []sector.Part {
	c := slices.Clone(l)
	for i := range c {
		c[i].Body = bytes.Clone(c[i].Body)
	}
	return c
}

// slowCut is the parts of a record by the chapter's words: their number first, then each by its index.
func slowCut(b []byte, epoch, seq uint32) []sector.Part {
	l := make([]sector.Part, max(1, (len(b)+492)/493))
	for i := range l {
		number := (uint64(seq) + uint64(i)) % (1 << 32)
		l[i] = sector.Part{Epoch: epoch, Seq: uint32(number), Body: b[i*493 : min(len(b), i*493+493)]}
	}
	l[0].Flags += 1
	l[len(l)-1].Flags += 2
	return l
}

// isRecord reports whether the parts of l are those of one record, by the chapter's words, asking each part for both flags.
func isRecord(l []sector.Part) bool {
	for i, p := range l {
		if (p.Flags%2 == 1) != (i == 0) || (p.Flags/2%2 == 1) != (i == len(l)-1) {
			return false
		}
	}
	return len(l) > 0
}

// slowJoin tries every number of parts for the next record. No list begins with two records, since only the last part of one has the flag 2.
func slowJoin(l []sector.Part) ([][]byte, int) {
	var records [][]byte
	used := 0
	for size := 1; used+size <= len(l); size++ {
		if group := l[used : used+size]; isRecord(group) {
			var b []byte
			for _, p := range group {
				b = append(b, p.Body...)
			}
			records = append(records, b)
			used, size = used+size, 0
		}
	}
	return records, used
}

func mustCut(t *testing.T, b []byte, epoch, seq uint32) []sector.Part {
	t.Helper()
	l, e := frag.Cut(b, epoch, seq)
	if e != api.OK {
		t.Fatalf("Cut of %d bytes: error %d", len(b), e)
	}
	return l
}

func mustJoin(t *testing.T, what string, l []sector.Part, records [][]byte, used int) {
	t.Helper()
	if got, n := frag.Join(l); !sameRecords(got, records) || n != used {
		t.Errorf("Join, %s: %d records of %d parts, not %d records of %d parts", what, len(got), n, len(records), used)
	}
}

// P4.1, Cut: records of every length, as the words say.
func TestCutOfEveryLength(t *testing.T) {
	n := numbers(1)
	all := n.bytes(9860)
	for size := range 9861 {
		b, epoch, seq := all[9860-size:], n.next(), n.next()
		if got, want := mustCut(t, b, epoch, seq), slowCut(b, epoch, seq); !slices.EqualFunc(got, want, same) {
			t.Fatalf("Cut of %d bytes: %d parts, not the %d expected ones", size, len(got), len(want))
		}
	}
}

// P4.1, Cut: the edges, written out: the flags and the length of each part.
func TestCutAtTheEdges(t *testing.T) {
	tests := []struct {
		size           int
		flags, lengths []int
	}{
		{0, []int{3}, []int{0}},
		{1, []int{3}, []int{1}},
		{492, []int{3}, []int{492}},
		{493, []int{3}, []int{493}},
		{494, []int{1, 2}, []int{493, 1}},
		{986, []int{1, 2}, []int{493, 493}},
		{987, []int{1, 0, 2}, []int{493, 493, 1}},
		{1000, []int{1, 0, 2}, []int{493, 493, 14}},
		{1479, []int{1, 0, 2}, []int{493, 493, 493}},
	}
	n := numbers(2)
	for _, x := range tests {
		b := n.bytes(x.size)
		var flags, lengths []int
		var whole []byte
		for _, p := range mustCut(t, b, 1, 0) {
			flags, lengths, whole = append(flags, p.Flags), append(lengths, len(p.Body)), append(whole, p.Body...)
		}
		if !slices.Equal(flags, x.flags) || !slices.Equal(lengths, x.lengths) || !bytes.Equal(whole, b) {
			t.Errorf("Cut of %d bytes: flags %v, lengths %v", x.size, flags, lengths)
		}
	}
}

// P4.1, Cut: the longest record has 20 full parts, and one of a byte less has 20 parts too.
func TestCutOfTheLongestRecord(t *testing.T) {
	n := numbers(3)
	for _, size := range []int{9859, 9860} {
		l := mustCut(t, n.bytes(size), 0, 0)
		if len(l) != 20 || len(l[19].Body) != size-19*493 || l[0].Flags != 1 || l[19].Flags != 2 {
			t.Fatalf("Cut of %d bytes: %d parts", size, len(l))
		}
		for i, p := range l[:19] {
			if len(p.Body) != 493 || i > 0 && p.Flags != 0 {
				t.Errorf("Cut of %d bytes: part %d has %d bytes, flags %d", size, i, len(p.Body), p.Flags)
			}
		}
	}
}

// P4.1, Cut: example 1 of the chapter; nil and empty are the same record (R3).
func TestCutOfNothing(t *testing.T) {
	for _, b := range [][]byte{nil, {}, make([]byte, 0, 600)} {
		l := mustCut(t, b, 4, 5)
		if len(l) != 1 || !same(l[0], sector.Part{Epoch: 4, Seq: 5, Flags: 3}) {
			t.Errorf("Cut of no bytes: %v", l)
		}
	}
}

// P4.1, Cut: more than 9860 bytes are no record, and no part comes with the error (R2).
func TestCutRefusesWhatIsTooLong(t *testing.T) {
	for _, size := range []int{9861, 9862, 10000, 10240, 10353, 10354, 65536, 65536 + 493, 1 << 20, 1<<24 + 1} {
		for _, seq := range []uint32{0, math.MaxUint32} {
			if l, e := frag.Cut(make([]byte, size), seq, seq); e != api.ErrFull || len(l) != 0 {
				t.Errorf("Cut of %d bytes: %d parts, error %d", size, len(l), e)
			}
		}
	}
}

// P4.1, Cut: every part has the epoch, and numbers go on by one, behind the greatest one at 0.
func TestCutNumbersItsParts(t *testing.T) {
	words := []uint32{0, 1, 2, 19, 255, 256, 65535, math.MaxInt32 - 3, math.MaxInt32, math.MaxInt32 + 1, math.MaxUint32 - 20, math.MaxUint32 - 19, math.MaxUint32 - 18, math.MaxUint32 - 1, math.MaxUint32}
	for _, epoch := range words {
		for _, seq := range words {
			want := seq
			for i, p := range mustCut(t, make([]byte, 9860), epoch, seq) {
				if p.Epoch != epoch || p.Seq != want {
					t.Fatalf("Cut(b, %d, %d): part %d has the epoch %d and the number %d", epoch, seq, i, p.Epoch, p.Seq)
				}
				want++
			}
			if want != seq+20 {
				t.Fatalf("Cut(b, %d, %d): %d parts", epoch, seq, want-seq)
			}
		}
	}
	l := mustCut(t, make([]byte, 1000), 3, math.MaxUint32)
	if l[0].Seq != 4294967295 || l[1].Seq != 0 || l[2].Seq != 1 {
		t.Errorf("the numbers %d, %d, %d", l[0].Seq, l[1].Seq, l[2].Seq)
	}
}

// P4.1, Cut: what it returns are parts that have sectors.
func TestCutReturnsPartsOfSectors(t *testing.T) {
	n := numbers(4)
	for _, size := range edges() {
		for _, p := range mustCut(t, n.bytes(size), n.next(), n.next()) {
			b, e := sector.Put(p)
			if e != api.OK {
				t.Fatalf("Put of a part of %d bytes: error %d", size, e)
			}
			if q, e := sector.Get(b); e != api.OK || !same(p, q) {
				t.Fatalf("Get of a part of %d bytes: error %d", size, e)
			}
		}
	}
}

// P4.1, Join: lists written out, with the records and the number of parts that they consist of.
func TestJoinKnownLists(t *testing.T) {
	tests := []struct {
		what    string
		l       []sector.Part
		records []string
		used    int
	}{
		{"none", nil, nil, 0},
		{"none, empty", []sector.Part{}, nil, 0},
		{"one part", []sector.Part{part(3, "a")}, []string{"a"}, 1},
		{"one part without bytes", []sector.Part{part(3, "")}, []string{""}, 1},
		{"two parts", []sector.Part{part(1, "a"), part(2, "b")}, []string{"ab"}, 2},
		{"three parts", []sector.Part{part(1, "a"), part(0, "b"), part(2, "c")}, []string{"abc"}, 3},
		{"five parts, some without bytes", []sector.Part{part(1, ""), part(0, "b"), part(0, ""), part(0, "cd"), part(2, "")}, []string{"bcd"}, 5},
		{"records one after the other", []sector.Part{part(3, "a"), part(1, "b"), part(2, "c"), part(3, "d"), part(1, "e"), part(0, "f"), part(2, "g")}, []string{"a", "bc", "d", "efg"}, 7},
		{"equal records", []sector.Part{part(3, "a"), part(3, "a"), part(3, ""), part(3, "")}, []string{"a", "a", "", ""}, 4},
		{"begins with a part of no flags", []sector.Part{part(0, "a"), part(3, "b")}, nil, 0},
		{"begins with a last part", []sector.Part{part(2, "a"), part(3, "b")}, nil, 0},
		{"begins inside a record", []sector.Part{part(0, "a"), part(2, "b"), part(3, "c")}, nil, 0},
		{"lacks the last part", []sector.Part{part(1, "a")}, nil, 0},
		{"lacks the last part, after two", []sector.Part{part(1, "a"), part(0, "b")}, nil, 0},
		{"lacks the last part, after a record", []sector.Part{part(3, "a"), part(1, "b"), part(0, "c")}, []string{"a"}, 1},
		{"flag 1 inside a record", []sector.Part{part(1, "a"), part(1, "b"), part(2, "c")}, nil, 0},
		{"flag 1 inside a record, later", []sector.Part{part(3, "a"), part(1, "b"), part(0, "c"), part(1, "d"), part(2, "e")}, []string{"a"}, 1},
		{"flag 1 at the last part", []sector.Part{part(1, "a"), part(3, "b")}, nil, 0},
		{"flag 1 at the last part, after a record", []sector.Part{part(1, "a"), part(2, "b"), part(1, "c"), part(0, "d"), part(3, "e"), part(3, "f")}, []string{"ab"}, 2},
		{"no flag behind a record", []sector.Part{part(3, "a"), part(0, "b"), part(3, "c")}, []string{"a"}, 1},
		{"flag 2 behind a record", []sector.Part{part(1, "a"), part(2, "b"), part(2, "c"), part(3, "d")}, []string{"ab"}, 2},
	}
	for _, x := range tests {
		var records [][]byte
		for _, s := range x.records {
			records = append(records, []byte(s))
		}
		mustJoin(t, x.what, x.l, records, x.used)
	}
}

// P4.1, Join: every list of up to seven parts by their two flags.
func TestJoinOfEveryShortList(t *testing.T) {
	for size := range 8 {
		for code := range 1 << (2 * size) {
			l := make([]sector.Part, size)
			for i := range l {
				l[i] = part(code>>(2*i)&3, string("abcdefg"[i]))
			}
			records, used := slowJoin(l)
			if got, n := frag.Join(l); !sameRecords(got, records) || n != used {
				t.Fatalf("Join of %v: %q, %d, not %q, %d", l, got, n, records, used)
			}
		}
	}
}

// P4.1, Join: any lists of parts that mostly form records, with bodies of any length.
func TestJoinOfLongLists(t *testing.T) {
	n := numbers(5)
	for round := range 3000 {
		var l []sector.Part
		inside := false
		for range n.below(60) {
			flags := 0
			if !inside {
				flags = 1
			}
			if n.below(3) == 0 {
				flags += 2
			}
			inside = flags < 2
			if n.below(40) == 0 {
				flags = n.below(4)
			}
			l = append(l, sector.Part{Epoch: n.next(), Seq: n.next(), Flags: flags, Body: n.bytes(n.below(1 << n.below(9)))})
		}
		records, used := slowJoin(l)
		if got, count := frag.Join(l); !sameRecords(got, records) || count != used {
			t.Fatalf("round %d: %d records of %d parts, not %d of %d", round, len(got), count, len(records), used)
		}
	}
}

// P4.1, Join: only the bits 1 and 2 of the flags count.
func TestJoinIgnoresOtherBits(t *testing.T) {
	for _, other := range []int{0, 4, 8, 12, 128, 252, 256, 1 << 32, 1 << 62, math.MaxInt - 3} {
		l := []sector.Part{part(other+3, "a"), part(other+1, "b"), part(other, "c"), part(other+2, "d"), part(other+3, "e"), part(other, "f"), part(other+3, "g")}
		mustJoin(t, "other bits", l, [][]byte{[]byte("a"), []byte("bcd"), []byte("e")}, 5)
		mustJoin(t, "other bits, without flag 1", l[2:], nil, 0)
		mustJoin(t, "other bits, flag 1 inside", []sector.Part{part(1, "a"), part(other+1, "b"), part(2, "c")}, nil, 0)
		mustJoin(t, "other bits, no last part", []sector.Part{part(1, "a"), part(other, "b")}, nil, 0)
		mustJoin(t, "other bits in some", []sector.Part{part(1, "a"), part(other, "b"), part(2, "c")}, [][]byte{[]byte("abc")}, 3)
	}
}

// P4.1, Join: epochs and numbers say nothing.
func TestJoinIgnoresEpochsAndNumbers(t *testing.T) {
	l := []sector.Part{
		{Epoch: 5, Seq: 9, Flags: 1, Body: []byte("a")},
		{Epoch: 0, Seq: 9, Flags: 0, Body: []byte("b")},
		{Epoch: math.MaxUint32, Seq: 0, Flags: 2, Body: []byte("c")},
		{Epoch: 1, Seq: math.MaxUint32, Flags: 3, Body: []byte("d")},
		{Epoch: 1, Seq: math.MaxUint32, Flags: 3, Body: []byte("e")},
	}
	mustJoin(t, "any epochs and numbers", l, [][]byte{[]byte("abc"), []byte("d"), []byte("e")}, 5)
}

// P4.1, Join: by its words flags alone make records, so bodies may be longer than a part's, and records longer than one that Cut takes.
func TestJoinTakesAnyBodies(t *testing.T) {
	n := numbers(6)
	long := n.bytes(9861)
	mustJoin(t, "a long body", []sector.Part{{Flags: 3, Body: long}, part(3, "a")}, [][]byte{long, []byte("a")}, 2)
	l := []sector.Part{part(1, "")}
	for range 3000 {
		l = append(l, part(0, "x"))
	}
	l = append(l, part(2, ""), part(3, "y"))
	mustJoin(t, "many parts", l, [][]byte{bytes.Repeat([]byte("x"), 3000), []byte("y")}, 3003)
	mustJoin(t, "a nil body", []sector.Part{{Flags: 1}, part(0, "a"), {Flags: 2}, {Flags: 3}}, [][]byte{[]byte("a"), nil}, 4)
}

// P4.1, R1: flags below 0, in each place and in all of them, only have to end.
func TestJoinEndsForFlagsBelowZero(t *testing.T) {
	for _, flags := range []int{-1, -2, -3, -4, -5, -8, -256, math.MinInt, math.MinInt + 1, math.MinInt + 2, math.MinInt + 3} {
		frag.Join([]sector.Part{part(flags, "a")})
		frag.Join([]sector.Part{part(flags, "a"), part(flags, "b"), part(flags, "c")})
		for at := range 4 {
			l := []sector.Part{part(3, "a"), part(1, "b"), part(0, "c"), part(2, "d")}
			l[at].Flags = flags
			frag.Join(l)
		}
	}
	n := numbers(7)
	for range 2000 {
		l := make([]sector.Part, n.below(12))
		for i := range l {
			l[i] = part(n.below(9)-5, "x")
		}
		frag.Join(l)
	}
}

// P4.1, P4.2: a single record of each length, also without its last or its first part, and twice.
func TestJoinOfOneRecord(t *testing.T) {
	n := numbers(8)
	for _, size := range edges() {
		b := n.bytes(size)
		l := mustCut(t, b, 1, 2)
		mustJoin(t, "what Cut returned", l, [][]byte{b}, len(l))
		mustJoin(t, "without the last part", l[:len(l)-1], nil, 0)
		mustJoin(t, "without the first part", l[1:], nil, 0)
		mustJoin(t, "twice", slices.Concat(l, l), [][]byte{b, b}, 2*len(l))
	}
}

// randomRecords returns some records, among them empty, long and short ones.
func (n *numbers) randomRecords() [][]byte {
	records := make([][]byte, n.below(8))
	lengths := edges()
	for i := range records {
		switch n.below(4) {
		case 0:
			records[i] = n.bytes(lengths[n.below(len(lengths))])
		case 1:
			records[i] = n.bytes(n.below(9861))
		default:
			records[i] = n.bytes(n.below(1200))
		}
	}
	return records
}

// P4.2: the parts of some records are joined to these records, whatever parts without the flag 1 follow.
func TestCutAndJoin(t *testing.T) {
	n := numbers(9)
	for range 600 {
		records := n.randomRecords()
		var l []sector.Part
		for _, b := range records {
			l = append(l, mustCut(t, b, n.next(), n.next())...)
		}
		mustJoin(t, "records alone", l, records, len(l))
		longer := slices.Clone(l)
		for range 1 + n.below(5) {
			flags := []int{0, 2, 4, 6, 1 << 40, math.MaxInt - 1, math.MaxInt - 3}[n.below(7)]
			longer = append(longer, sector.Part{Epoch: n.next(), Seq: n.next(), Flags: flags, Body: n.bytes(n.below(50))})
		}
		mustJoin(t, "with parts without the flag 1 behind", longer, records, len(l))
		// Behind those, even a record is not reached.
		longer = append(longer, part(3, "a"))
		mustJoin(t, "with a record behind these", longer, records, len(l))
	}
}

// P4.2: wherever the parts of some records are broken off, the records that are whole are joined.
func TestCutAndJoinOfWhatIsLeft(t *testing.T) {
	n := numbers(10)
	records := [][]byte{n.bytes(0), n.bytes(494), n.bytes(493), n.bytes(1500), n.bytes(1)}
	var l []sector.Part
	var ends []int
	for _, b := range records {
		l = append(l, mustCut(t, b, 7, uint32(len(l)))...)
		ends = append(ends, len(l))
	}
	for size := range len(l) + 1 {
		whole, used := 0, 0
		for i, end := range ends {
			if end <= size {
				whole, used = i+1, end
			}
		}
		mustJoin(t, "broken off", l[:size], records[:whole], used)
	}
}

// R3: Cut neither changes its bytes, also behind their end, nor keeps them.
func TestCutLeavesItsArgument(t *testing.T) {
	for _, size := range []int{0, 1, 493, 494, 986, 1000, 9860} {
		all := bytes.Repeat([]byte{9}, size+600)
		before := bytes.Clone(all)
		l := mustCut(t, all[3:3+size], 1, 2)
		if !bytes.Equal(all, before) {
			t.Fatalf("Cut of %d bytes changed what it was given", size)
		}
		clear(all)
		if !slices.EqualFunc(l, slowCut(before[3:3+size], 1, 2), same) {
			t.Fatalf("Cut of %d bytes kept what it was given", size)
		}
		for i := range l {
			_ = append(l[i].Body, 200, 200, 200)
			for j := range l[i].Body {
				l[i].Body[j] = 100
			}
		}
		if bytes.Count(all, []byte{0}) != len(all) {
			t.Fatalf("a part of %d bytes shares memory with them", size)
		}
	}
	long := bytes.Repeat([]byte{9}, 9861)
	frag.Cut(long, 1, 2)
	if bytes.Count(long, []byte{9}) != len(long) {
		t.Error("Cut changed what is too long for it")
	}
}

// R3: no part shares memory with another one, of the same call or of a later one.
func TestPartsShareNothing(t *testing.T) {
	n := numbers(11)
	b := n.bytes(2000)
	want := slowCut(b, 1, 2)
	for i := range want {
		l, other := mustCut(t, b, 1, 2), mustCut(t, b, 1, 2)
		_ = append(l[i].Body, bytes.Repeat([]byte{200}, 600)...)
		clear(l[i].Body)
		for j := range want {
			if j != i && !same(l[j], want[j]) {
				t.Errorf("part %d changes with part %d", j, i)
			}
		}
		if !slices.EqualFunc(other, want, same) {
			t.Errorf("part %d shares memory with another call's", i)
		}
	}
}

// R3: Join neither changes its parts, also behind their end, nor keeps them.
func TestJoinLeavesItsArgument(t *testing.T) {
	bodies := []byte("abcdefghijkl")
	l := []sector.Part{
		{Epoch: 1, Seq: 1, Flags: 3, Body: bodies[0:2]},
		{Epoch: 2, Seq: 2, Flags: 1, Body: bodies[2:4]},
		{Epoch: 3, Seq: 3, Flags: 0, Body: bodies[4:4]},
		{Epoch: 4, Seq: 4, Flags: 2, Body: bodies[4:8]},
		{Epoch: 5, Seq: 5, Flags: 7, Body: bodies[8:10]},
		{Epoch: 6, Seq: 6, Flags: 3, Body: bodies[10:12]},
	}
	before := cloned(l)
	records, used := frag.Join(l[:5])
	want := [][]byte{[]byte("ab"), []byte("cdefgh"), []byte("ij")}
	if !sameRecords(records, want) || used != 5 {
		t.Fatalf("Join: %q, %d", records, used)
	}
	if !slices.EqualFunc(l, before, same) || string(bodies) != "abcdefghijkl" {
		t.Error("Join changed what it was given")
	}
	clear(bodies)
	clear(l)
	if !sameRecords(records, want) {
		t.Error("Join kept what it was given")
	}
	for i := range records {
		_ = append(records[i], 200, 200, 200)
		for j := range records[i] {
			records[i][j] = 100
		}
	}
	if bytes.Count(bodies, []byte{0}) != len(bodies) {
		t.Error("a record shares memory with a part")
	}
}

// R3: no record shares memory with another one, of the same call or of a later one.
func TestRecordsShareNothing(t *testing.T) {
	l := []sector.Part{part(3, "abc"), part(1, "de"), part(2, "f"), part(3, "ghi")}
	want := [][]byte{[]byte("abc"), []byte("def"), []byte("ghi")}
	for i := range want {
		records, _ := frag.Join(l)
		other, _ := frag.Join(l)
		_ = append(records[i], 200, 200, 200, 200)
		clear(records[i])
		for j := range want {
			if j != i && !bytes.Equal(records[j], want[j]) {
				t.Errorf("record %d changes with record %d", j, i)
			}
		}
		if !sameRecords(other, want) {
			t.Errorf("record %d shares memory with another call's", i)
		}
	}
}

// R4: calls do not depend on those before them, and calls at the same time do not disturb each other.
func TestCallsAreIndependent(t *testing.T) {
	n := numbers(12)
	b := n.bytes(3000)
	want := slowCut(b, 5, math.MaxUint32-1)
	results := make(chan bool)
	for i := range 8 {
		go func() {
			frag.Cut(make([]byte, 1250*i), uint32(i), uint32(i))
			frag.Join([]sector.Part{part(1, "a"), part(i, "b")})
			l, e := frag.Cut(b, 5, math.MaxUint32-1)
			records, used := frag.Join(l)
			results <- e == api.OK && slices.EqualFunc(l, want, same) && sameRecords(records, [][]byte{b}) && used == len(want)
		}()
	}
	for range 8 {
		if !<-results {
			t.Error("a call depends on others")
		}
	}
}
