package pack_test

import (
	"bytes"
	"encoding/binary"
	"math"
	"math/big"
	"testing"

	"davit/api"
	"davit/pack"
)

// The calls have exactly these signatures.
var (
	_ func(uint64, int) []byte         = pack.Number
	_ func([]byte) ([]byte, api.Errno) = pack.Text
	_ func([]byte) *pack.Reader        = pack.Read
	_ func(*pack.Reader, int) uint64   = (*pack.Reader).Number
	_ func(*pack.Reader) []byte        = (*pack.Reader).Text
	_ func(*pack.Reader) bool          = (*pack.Reader).End
)

// numbers yields the same numbers in every test run.
type numbers uint64

func (n *numbers) next() uint32 {
	*n = *n*6364136223846793005 + 1442695040888963407
	return uint32(*n >> 32)
}

func (n *numbers) below(most int) int {
	return int(n.next()) % most
}

func (n *numbers) wide() uint64 {
	return uint64(n.next())<<32 | uint64(n.next())
}

func (n *numbers) bytes(size int) []byte {
	b := make([]byte, size)
	for i := range b {
		b[i] = byte(n.next() >> 24)
	}
	return b
}

// wrongSizes are sizes that no number has.
func wrongSizes() []int {
	return []int{0, 9, -1, -8, 10, 16, 64, 255, 256, 257, 264, 1 << 32, 1<<32 + 1, -1 << 32, math.MaxInt, math.MinInt, math.MinInt + 1}
}

// someNumbers are the edges of each size, one bit alone, one byte alone, and others.
func someNumbers() []uint64 {
	l := []uint64{0, 1, 2, 258, 65537, math.MaxUint64, 0x0102030405060708, 0xF0E0D0C0B0A09080}
	for i := range 64 {
		l = append(l, 1<<i, 1<<i-1, ^uint64(1<<i))
	}
	for i := range 8 {
		l = append(l, 0xFF<<(8*i), 0x80<<(8*i))
	}
	n := numbers(1)
	for range 100 {
		l = append(l, n.wide())
	}
	return l
}

func someTexts() [][]byte {
	l := [][]byte{nil, {}, {0}, {255}, {0, 0}, {0, 3}, []byte("abc"), []byte("send \"x\"\n")}
	n := numbers(2)
	for size := range 40 {
		l = append(l, n.bytes(size))
	}
	for _, size := range []int{255, 256, 257, 511, 512, 513, 32767, 32768, 65534, 65535} {
		l = append(l, n.bytes(size))
	}
	return l
}

// slowNumber is the encoding by the chapter's words: the remainder by 256 to the power of size, the most significant byte first.
func slowNumber(n uint64, size int) []byte {
	if size < 1 || size > 8 {
		return nil
	}
	power := new(big.Int).Exp(big.NewInt(256), big.NewInt(int64(size)), nil)
	rest := new(big.Int).Mod(new(big.Int).SetUint64(n), power)
	return rest.FillBytes(make([]byte, size))
}

func slowText(b []byte) []byte {
	return append([]byte{byte(len(b) / 256), byte(len(b) % 256)}, b...)
}

func kept(n uint64, size int) uint64 {
	return n << (64 - 8*size) >> (64 - 8*size)
}

// P2.1, Number: all sizes, for the edges of each.
func TestNumberOfEverySize(t *testing.T) {
	for _, n := range someNumbers() {
		for size := 1; size <= 8; size++ {
			if got, want := pack.Number(n, size), slowNumber(n, size); !bytes.Equal(got, want) {
				t.Fatalf("Number(%d, %d): % X, not % X", n, size, got, want)
			}
		}
		if got, want := pack.Number(n, 8), binary.BigEndian.AppendUint64(nil, n); !bytes.Equal(got, want) {
			t.Fatalf("Number(%d, 8): % X, the library % X", n, got, want)
		}
	}
}

// P2.1, Number: known encodings, example 1 of the chapter among them.
func TestNumberKnownBytes(t *testing.T) {
	tests := []struct {
		n    uint64
		size int
		want string
	}{
		{258, 3, "\x00\x01\x02"},
		{0, 1, "\x00"},
		{255, 1, "\xff"},
		{256, 1, "\x00"},
		{257, 1, "\x01"},
		{65537, 2, "\x00\x01"},
		{0x0102030405060708, 1, "\x08"},
		{0x0102030405060708, 4, "\x05\x06\x07\x08"},
		{0x0102030405060708, 7, "\x02\x03\x04\x05\x06\x07\x08"},
		{0x0102030405060708, 8, "\x01\x02\x03\x04\x05\x06\x07\x08"},
		{math.MaxUint64, 8, "\xff\xff\xff\xff\xff\xff\xff\xff"},
		{1, 8, "\x00\x00\x00\x00\x00\x00\x00\x01"},
		{1 << 63, 8, "\x80\x00\x00\x00\x00\x00\x00\x00"},
	}
	for _, x := range tests {
		if got := string(pack.Number(x.n, x.size)); got != x.want {
			t.Errorf("Number(%d, %d): %x, not %x", x.n, x.size, got, x.want)
		}
	}
}

// P2.1, Number: sizes that no number has.
func TestNumberOfWrongSize(t *testing.T) {
	for _, size := range wrongSizes() {
		for _, n := range []uint64{0, 1, 258, math.MaxUint64} {
			if got := pack.Number(n, size); len(got) != 0 {
				t.Errorf("Number(%d, %d): % X", n, size, got)
			}
		}
	}
}

// P2.1, Text: lengths up to the greatest one.
func TestTextOfEveryLength(t *testing.T) {
	for _, b := range someTexts() {
		got, e := pack.Text(b)
		if want := slowText(b); e != api.OK || !bytes.Equal(got, want) {
			t.Fatalf("Text of %d bytes: %d bytes, error %d", len(b), len(got), e)
		}
	}
	got, e := pack.Text(nil)
	if string(got) != "\x00\x00" || e != api.OK {
		t.Errorf("Text(nil): % X, %d", got, e)
	}
	got, e = pack.Text([]byte("abc"))
	if string(got) != "\x00\x03abc" || e != api.OK {
		t.Errorf("Text(abc): % X, %d", got, e)
	}
}

// P2.1, Text: 65535 bytes are encoded, 65536 and more are too many; R2: no bytes together with the error.
func TestTextTooLong(t *testing.T) {
	got, e := pack.Text(make([]byte, 65535))
	if e != api.OK || len(got) != 65537 || got[0] != 255 || got[1] != 255 {
		t.Errorf("Text of 65535 bytes: %d bytes, error %d", len(got), e)
	}
	for _, size := range []int{65536, 65537, 65539, 131072, 1 << 20} {
		if got, e := pack.Text(make([]byte, size)); e != api.ErrFull || len(got) != 0 {
			t.Errorf("Text of %d bytes: %d bytes, error %d", size, len(got), e)
		}
	}
}

// P2.2, Number: every size reads as many bytes, the most significant one first, and moves beyond them.
func TestReadNumbers(t *testing.T) {
	b := []byte{1, 2, 3, 4, 5, 6, 7, 8, 9}
	want := []uint64{1, 0x0102, 0x010203, 0x01020304, 0x0102030405, 0x010203040506, 0x01020304050607, 0x0102030405060708}
	for size := 1; size <= 8; size++ {
		r := pack.Read(b)
		if got := r.Number(size); got != want[size-1] {
			t.Errorf("Number(%d): %X, not %X", size, got, want[size-1])
		}
		if got := r.Number(1); got != uint64(size+1) {
			t.Errorf("after Number(%d): %d", size, got)
		}
	}
	r := pack.Read(bytes.Repeat([]byte{255}, 8))
	if got := r.Number(8); got != math.MaxUint64 || !r.End() {
		t.Errorf("Number(8): %X", got)
	}
}

// P2.2, Text: as many bytes as the length says, and what comes after them.
func TestReadTexts(t *testing.T) {
	for _, text := range someTexts() {
		r := pack.Read(append(slowText(text), 7, 0, 1, 8))
		if got := r.Text(); !bytes.Equal(got, text) {
			t.Fatalf("a text of %d bytes: %d bytes", len(text), len(got))
		}
		if r.Number(1) != 7 || string(r.Text()) != "\x08" || !r.End() {
			t.Fatalf("wrong position after a text of %d bytes", len(text))
		}
	}
}

// P2.2, End: at the end only, and asking changes nothing.
func TestEndAtTheEnd(t *testing.T) {
	for _, b := range [][]byte{nil, {}} {
		r := pack.Read(b)
		if r == nil || !r.End() || !r.End() {
			t.Error("no bytes: not at the end")
		}
	}
	r := pack.Read([]byte{5, 0, 2, 6, 7, 0, 0})
	steps := []func() bool{
		func() bool { return r.Number(1) == 5 },
		func() bool { return string(r.Text()) == "\x06\x07" },
		func() bool { return len(r.Text()) == 0 },
	}
	for i, step := range steps {
		if r.End() || r.End() {
			t.Errorf("at the end before step %d", i)
		}
		if !step() {
			t.Errorf("step %d", i)
		}
	}
	if !r.End() || !r.End() {
		t.Error("not at the end")
	}
}

// hasFailed calls everything several times, since each call of a failed reader returns nothing, whatever it is asked for.
func hasFailed(r *pack.Reader) bool {
	for range 2 {
		for size := -1; size <= 10; size++ {
			if r.Number(size) != 0 || len(r.Text()) != 0 || r.End() {
				return false
			}
		}
	}
	return true
}

func failsAtNumber(r *pack.Reader, size int) bool {
	return r.Number(size) == 0 && !r.End() && hasFailed(r)
}

func failsAtText(r *pack.Reader) bool {
	return len(r.Text()) == 0 && !r.End() && hasFailed(r)
}

// P2.2: bytes that end within a number, at every place of it, also after others that were there.
func TestReaderFailsWithinNumber(t *testing.T) {
	for size := 1; size <= 8; size++ {
		for have := range size {
			b := bytes.Repeat([]byte{255}, have)
			if !failsAtNumber(pack.Read(b), size) {
				t.Errorf("Number(%d) of %d bytes", size, have)
			}
			r := pack.Read(append([]byte{1, 2, 3}, b...))
			if r.Number(3) != 0x010203 || !failsAtNumber(r, size) {
				t.Errorf("Number(%d) of %d bytes after others", size, have)
			}
		}
	}
}

// P2.2: bytes that end within a text: within its length, right after it, and within its bytes.
func TestReaderFailsWithinText(t *testing.T) {
	texts := []string{"", "\x00", "\x03", "\x00\x01", "\x00\x03a", "\x00\x03ab", "\x01\x00", "\x01\x00a", "\xff\xff", "\xff\xffabc"}
	for _, b := range texts {
		if !failsAtText(pack.Read([]byte(b))) {
			t.Errorf("Text of %x", b)
		}
		r := pack.Read([]byte("\x00\x02ok" + b))
		if string(r.Text()) != "ok" || !failsAtText(r) {
			t.Errorf("Text of %x after another", b)
		}
	}
	long := slowText(bytes.Repeat([]byte{9}, 65535))
	if !failsAtText(pack.Read(long[:len(long)-1])) {
		t.Error("Text that lacks the last of 65535 bytes")
	}
}

// P2.2: sizes that no number has, with bytes enough, at the end, and at once or later.
func TestReaderFailsAtWrongSize(t *testing.T) {
	for _, size := range wrongSizes() {
		if !failsAtNumber(pack.Read(bytes.Repeat([]byte{1}, 600)), size) {
			t.Errorf("Number(%d)", size)
		}
		if !failsAtNumber(pack.Read(nil), size) {
			t.Errorf("Number(%d) of no bytes", size)
		}
		r := pack.Read([]byte{4, 5})
		if r.Number(1) != 4 || !failsAtNumber(r, size) {
			t.Errorf("Number(%d) after another", size)
		}
	}
}

// P2.2: what a failed reader had left stays out of reach, though there would be enough of it.
func TestFailedReaderStaysFailed(t *testing.T) {
	b := []byte{0, 1, 65, 0, 0, 0}
	r := pack.Read(b)
	if r.Number(7) != 0 || !hasFailed(r) {
		t.Error("after a number that is too long")
	}
	r = pack.Read(append([]byte{9, 9}, b...))
	if len(r.Text()) != 0 || !hasFailed(r) {
		t.Error("after a text that is too long")
	}
	r = pack.Read(nil)
	if !r.End() || r.Number(1) != 0 || r.End() || !hasFailed(r) {
		t.Error("after a number beyond the end")
	}
}

// P2.2: a nil reader behaves like one that has failed.
func TestNilReader(t *testing.T) {
	var r *pack.Reader
	if r.End() || !hasFailed(r) {
		t.Error("a nil reader reads")
	}
}

// slowReader is a reader by the chapter's words alone: an index into the bytes, and whether it has failed.
type slowReader struct {
	b    []byte
	at   int
	fell bool
}

func (r *slowReader) number(size int) uint64 {
	r.fell = r.fell || size < 1 || size > 8 || size > len(r.b)-r.at
	if r.fell {
		return 0
	}
	r.at += size
	return new(big.Int).SetBytes(r.b[r.at-size : r.at]).Uint64()
}

func (r *slowReader) text() []byte {
	size := int(r.number(2))
	r.fell = r.fell || size > len(r.b)-r.at
	if r.fell {
		return nil
	}
	r.at += size
	return r.b[r.at-size : r.at]
}

func (r *slowReader) end() bool {
	return !r.fell && r.at == len(r.b)
}

// P2.2: any calls on any bytes, as the words say.
func TestReaderOnAnyBytes(t *testing.T) {
	n := numbers(3)
	for round := range 20000 {
		b := n.bytes(n.below(24))
		for i := range b { // small bytes, so that many lengths of texts fit
			b[i] &= byte(1<<n.below(9) - 1)
		}
		r, slow := pack.Read(b), slowReader{b: b}
		for call := range 12 {
			if n.below(3) == 0 {
				if got, want := r.Text(), slow.text(); !bytes.Equal(got, want) {
					t.Fatalf("round %d, call %d, of % X: Text % X, not % X", round, call, b, got, want)
				}
			} else {
				size := n.below(41)/4 - n.below(20)/19
				if got, want := r.Number(size), slow.number(size); got != want {
					t.Fatalf("round %d, call %d, of % X: Number(%d) %X, not %X", round, call, b, size, got, want)
				}
			}
			if got, want := r.End(), slow.end(); got != want {
				t.Fatalf("round %d, call %d, of % X: End %v", round, call, b, got)
			}
		}
	}
}

// item is something that was encoded: a number of a size, or, of size 0, a text.
type item struct {
	size   int
	number uint64
	text   []byte
}

func (n *numbers) items() []item {
	l := make([]item, n.below(12))
	for i := range l {
		if n.below(2) == 0 {
			l[i].text = n.bytes(n.below(1 << n.below(11)))
		} else {
			l[i] = item{size: 1 + n.below(8), number: n.wide()}
		}
	}
	return l
}

func (x item) bytes(t *testing.T) []byte {
	if x.size > 0 {
		return pack.Number(x.number, x.size)
	}
	b, e := pack.Text(x.text)
	if e != api.OK {
		t.Fatalf("Text of %d bytes: %d", len(x.text), e)
	}
	return b
}

func (x item) isNext(r *pack.Reader) bool {
	if x.size > 0 {
		return r.Number(x.size) == kept(x.number, x.size)
	}
	return bytes.Equal(r.Text(), x.text)
}

// P2.3: items one after another are read back up to the end, and not beyond it.
func TestItemsAreReadBack(t *testing.T) {
	n := numbers(4)
	for round := range 3000 {
		var b []byte
		items := n.items()
		for _, x := range items {
			b = append(b, x.bytes(t)...)
		}
		r := pack.Read(b)
		for i, x := range items {
			if r.End() {
				t.Fatalf("round %d: at the end before item %d of %d", round, i, len(items))
			}
			if !x.isNext(r) {
				t.Fatalf("round %d: item %d of %d", round, i, len(items))
			}
		}
		if !r.End() {
			t.Fatalf("round %d: not at the end after %d items", round, len(items))
		}
		if len(r.Text()) != 0 || r.End() {
			t.Fatalf("round %d: a text beyond the end", round)
		}
	}
}

// P2.3: every number in every size, and texts of every length that the chapter names.
func TestEachIsReadBack(t *testing.T) {
	for _, n := range someNumbers() {
		for size := 1; size <= 8; size++ {
			r := pack.Read(pack.Number(n, size))
			if got := r.Number(size); got != kept(n, size) || !r.End() {
				t.Fatalf("%d in %d bytes: %d", n, size, got)
			}
		}
	}
	for _, text := range someTexts() {
		b, _ := pack.Text(text)
		r := pack.Read(b)
		if got := r.Text(); !bytes.Equal(got, text) || !r.End() {
			t.Fatalf("a text of %d bytes: %d bytes", len(text), len(got))
		}
	}
}

// P2.3 and P2.2: whatever is cut off the end, the items ahead of the cut are read back, and the one that is cut fails.
func TestItemsCutOff(t *testing.T) {
	items := []item{{size: 1, number: 200}, {text: []byte("abc")}, {size: 8, number: math.MaxUint64}, {text: nil}, {size: 3, number: 258}, {text: []byte{0, 1}}}
	var b []byte
	var ends []int
	for _, x := range items {
		b = append(b, x.bytes(t)...)
		ends = append(ends, len(b))
	}
	for cut := range len(b) + 1 {
		r := pack.Read(b[:cut])
		i := 0
		for ; i < len(items) && ends[i] <= cut; i++ {
			if !items[i].isNext(r) {
				t.Fatalf("cut at %d: item %d", cut, i)
			}
		}
		if i == len(items) {
			continue
		}
		atEnd := i == 0 && cut == 0 || i > 0 && cut == ends[i-1]
		if r.End() != atEnd {
			t.Fatalf("cut at %d: End %v ahead of item %d", cut, r.End(), i)
		}
		if items[i].size > 0 && !failsAtNumber(r, items[i].size) || items[i].size == 0 && !failsAtText(r) {
			t.Fatalf("cut at %d: item %d does not fail", cut, i)
		}
	}
}

// R3: the arguments stay as they are, also behind their end.
func TestArgumentsStay(t *testing.T) {
	all := []byte{9, 9, 0, 2, 65, 66, 7, 9, 9}
	before := bytes.Clone(all)
	pack.Text(all[2:4])
	r := pack.Read(all[2:7])
	if string(r.Text()) != "AB" || r.Number(1) != 7 || !r.End() || r.Number(2) != 0 {
		t.Error("other bytes than those of the list are read")
	}
	if !bytes.Equal(all, before) {
		t.Error("the bytes handed in were changed")
	}
}

// R3 and R4: a reader does not retain its argument: what is written there later on does not count.
func TestReaderKeepsItsOwnBytes(t *testing.T) {
	b := []byte{1, 0, 2, 65, 66, 3}
	r := pack.Read(b)
	first := r.Number(1)
	clear(b)
	if first != 1 || string(r.Text()) != "AB" || r.Number(1) != 3 || !r.End() {
		t.Error("the reader reads what was written after Read")
	}
}

// R3: results are new memory: who changes one, or appends to it, changes nothing else.
func TestResultsAreNew(t *testing.T) {
	text := []byte("abc")
	b, _ := pack.Text(text)
	clear(b)
	if string(text) != "abc" {
		t.Error("Text's result shares memory with its argument")
	}
	if c, _ := pack.Text(text); string(c) != "\x00\x03abc" {
		t.Error("Text's results share memory")
	}
	one := pack.Number(258, 3)
	clear(one)
	if string(pack.Number(258, 3)) != "\x00\x01\x02" {
		t.Error("Number's results share memory")
	}
	all := []byte{0, 1, 65, 0, 2, 66, 67, 5}
	r := pack.Read(all)
	a := r.Text()
	_ = append(a, 200, 200, 200, 200)
	a[0] = 200
	if string(r.Text()) != "BC" || r.Number(1) != 5 || !r.End() {
		t.Error("a text shares memory with its reader")
	}
	if all[2] != 65 || all[3] != 0 {
		t.Error("a text shares memory with the bytes that were read")
	}
}

// R4: readers of the same bytes do not disturb each other, also not by failing.
func TestReadersAreIndependent(t *testing.T) {
	b := []byte{0, 2, 1, 2, 3}
	r, s, f := pack.Read(b), pack.Read(b), pack.Read(b)
	f.Number(0)
	if r.Number(2) != 2 || len(s.Text()) != 2 || r.Number(3) != 0x010203 || s.Number(1) != 3 || !r.End() || !s.End() || f.End() {
		t.Error("one reader moves another")
	}
}
