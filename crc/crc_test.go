package crc_test

import (
	"bytes"
	"hash/crc32"
	"math/bits"
	"strings"
	"testing"

	"davit/crc"
)

// The calls have exactly these signatures.
var (
	_ func(uint32, byte) uint32   = crc.Byte
	_ func(uint32, []byte) uint32 = crc.Extend
	_ func([]byte) uint32         = crc.Sum
)

// bitList is a register as 32 separate bits, the least significant one first: the chapter's words without shifts or tables.
type bitList [32]int

func listOf(r uint32) bitList {
	var l bitList
	for i := range l {
		l[i] = int(r >> i & 1)
	}
	return l
}

func (l bitList) number() uint32 {
	n := uint32(0)
	for i, bit := range l {
		n |= uint32(bit) << i
	}
	return n
}

func (l bitList) fed(bit int) bitList {
	x := bit ^ l[0]
	copy(l[:], l[1:])
	l[31] = 0
	for i, tap := range listOf(0xEDB88320) {
		l[i] ^= x & tap
	}
	return l
}

func slowByte(r uint32, b byte) uint32 {
	l := listOf(r)
	for i := 0; i < 8; i++ {
		l = l.fed(int(b) >> i & 1)
	}
	return l.number()
}

func slowExtend(r uint32, b []byte) uint32 {
	for _, c := range b {
		r = slowByte(r, c)
	}
	return r
}

func slowSum(b []byte) uint32 {
	return 0xFFFFFFFF - slowExtend(0xFFFFFFFF, b)
}

// numbers yields the same numbers in every test run.
type numbers uint64

func (n *numbers) next() uint32 {
	*n = *n*6364136223846793005 + 1442695040888963407
	return uint32(*n >> 32)
}

func (n *numbers) bytes(size int) []byte {
	b := make([]byte, size)
	for i := range b {
		b[i] = byte(n.next() >> 24)
	}
	return b
}

// registers are the edges (all bits 0, all 1, one bit alone, one bit missing) and some others.
func registers() []uint32 {
	l := []uint32{0, 0xFFFFFFFF, 0xEDB88320, 0x12477CDF, 0x55555555, 0xAAAAAAAA, 0x0000FFFF, 0xFFFF0000}
	for i := range 32 {
		l = append(l, 1<<i, ^uint32(1<<i))
	}
	n := numbers(1)
	for range 20 {
		l = append(l, n.next())
	}
	return l
}

func ordinaryTexts() [][]byte {
	l := [][]byte{nil, {}, {0}, {255}, {0, 0}, []byte("step a send \"x\""), []byte("123456789")}
	l = append(l, bytes.Repeat([]byte{0}, 512), bytes.Repeat([]byte{255}, 512))
	n := numbers(2)
	for size := range 70 {
		l = append(l, n.bytes(size))
	}
	return append(l, n.bytes(511), n.bytes(512), n.bytes(513), n.bytes(5000))
}

// P1.1, Byte: every byte, and so each bit of a byte, in registers of every kind.
func TestByteFeedsEveryByte(t *testing.T) {
	for _, r := range registers() {
		for b := range 256 {
			if got, want := crc.Byte(r, byte(b)), slowByte(r, byte(b)); got != want {
				t.Fatalf("Byte(%08X, %d): %08X, not %08X", r, b, got, want)
			}
		}
	}
}

// P1.1, Byte: known registers, each bit of a byte alone among them.
func TestByteKnownRegisters(t *testing.T) {
	tests := []struct {
		r    uint32
		b    byte
		want uint32
	}{
		{0, 0, 0},
		{0, 1, 0x77073096},
		{0, 2, 0xEE0E612C},
		{0, 4, 0x076DC419},
		{0, 8, 0x0EDB8832},
		{0, 16, 0x1DB71064},
		{0, 32, 0x3B6E20C8},
		{0, 64, 0x76DC4190},
		{0, 128, 0xEDB88320},
		{0, 255, 0x2D02EF8D},
		{1, 0, 0x77073096},
		{1, 1, 0},
		{0x100, 0, 1},
		{0x80000000, 0, 0x00800000},
		{0xFFFFFFFF, 0, 0x2DFD1072},
		{0xFFFFFFFF, 255, 0x00FFFFFF},
	}
	for _, x := range tests {
		if got := crc.Byte(x.r, x.b); got != x.want {
			t.Errorf("Byte(%08X, %d): %08X, not %08X", x.r, x.b, got, x.want)
		}
	}
}

// P1.1, Extend: as the words say, as the library's CRC-32 says, and as Byte does it one by one.
func TestExtendFeedsAllBytes(t *testing.T) {
	for _, r := range []uint32{0, 0xFFFFFFFF, 1, 0x80000000, 0xEDB88320, 0x12345678} {
		for _, b := range ordinaryTexts() {
			got := crc.Extend(r, b)
			if want := slowExtend(r, b); got != want {
				t.Fatalf("Extend(%08X, %d bytes): %08X, not %08X", r, len(b), got, want)
			}
			if want := ^crc32.Update(^r, crc32.IEEETable, b); got != want {
				t.Fatalf("Extend(%08X, %d bytes): %08X, the library %08X", r, len(b), got, want)
			}
			one := r
			for _, c := range b {
				one = crc.Byte(one, c)
			}
			if got != one {
				t.Fatalf("Extend(%08X, %d bytes): %08X, by Byte %08X", r, len(b), got, one)
			}
		}
	}
}

// P1.1, Extend: no bytes leave every register as it is, nil or empty (R3).
func TestExtendByNothing(t *testing.T) {
	for _, r := range registers() {
		if got := crc.Extend(r, nil); got != r {
			t.Errorf("Extend(%08X, nil): %08X", r, got)
		}
		if got := crc.Extend(r, []byte{}); got != r {
			t.Errorf("Extend(%08X, empty): %08X", r, got)
		}
	}
}

// P1.1, Sum: known sums, example 1 of the chapter among them.
func TestSumKnownSums(t *testing.T) {
	tests := []struct {
		text string
		want uint32
	}{
		{"", 0},
		{"123456789", 0xCBF43926},
		{"a", 0xE8B7BE43},
		{"abc", 0x352441C2},
		{"\x00", 0xD202EF8D},
		{"\xff", 0xFF000000},
		{"\x00\x00\x00\x00", 0x2144DF1C},
		{"\xff\xff\xff\xff", 0xFFFFFFFF},
		{"The quick brown fox jumps over the lazy dog", 0x414FA339},
		{strings.Repeat("\x00", 32), 0x190A55AD},
		{strings.Repeat("\xff", 32), 0xFF6CAB0B},
	}
	for _, x := range tests {
		if got := crc.Sum([]byte(x.text)); got != x.want {
			t.Errorf("Sum(%q): %08X, not %08X", x.text, got, x.want)
		}
	}
	if got := crc.Sum(nil); got != 0 {
		t.Errorf("Sum(nil): %08X", got)
	}
}

// P1.1, Sum: every single byte and texts of many lengths.
func TestSumOfTexts(t *testing.T) {
	texts := ordinaryTexts()
	for b := range 256 {
		texts = append(texts, []byte{byte(b)})
	}
	for _, b := range texts {
		got := crc.Sum(b)
		if want := slowSum(b); got != want {
			t.Fatalf("Sum of %d bytes: %08X, not %08X", len(b), got, want)
		}
		if want := crc32.ChecksumIEEE(b); got != want {
			t.Fatalf("Sum of %d bytes: %08X, the library %08X", len(b), got, want)
		}
	}
}

// changed returns a copy of b in which the bits of pattern are turned over, from bit at on, in the order in which bits are fed.
func changed(b []byte, at int, pattern uint64) []byte {
	c := bytes.Clone(b)
	for ; pattern != 0; pattern &= pattern - 1 {
		i := at + bits.TrailingZeros64(pattern)
		c[i/8] ^= 1 << (i % 8)
	}
	return c
}

// burstPatterns are nonzero patterns of at most 32 bits: all of up to 10 bits, one and two bits, runs of bits, and others.
func burstPatterns() []uint32 {
	var l []uint32
	for p := uint32(1); p < 1<<10; p++ {
		l = append(l, p)
	}
	for i := range 32 {
		for j := range i + 1 {
			l = append(l, 1<<i|1<<j, ^uint32(0)>>i&^(1<<j-1))
		}
	}
	n := numbers(3)
	for range 500 {
		l = append(l, n.next(), n.next()|1|1<<31)
	}
	return append(l, 0xEDB88320, 0xDB710640, 0x04C11DB7, 0x82608EDB)
}

// P1.2: bytes that differ only within 32 consecutive bits have different sums, from every bit on and so across all bounds of bytes.
func TestSumTellsBursts(t *testing.T) {
	n := numbers(4)
	texts := [][]byte{make([]byte, 4), bytes.Repeat([]byte{255}, 5), n.bytes(4), n.bytes(9)}
	for _, b := range texts {
		sum := crc.Sum(b)
		for at := range len(b) * 8 {
			room := min(32, len(b)*8-at)
			for _, p := range burstPatterns() {
				p &= uint32(1<<room - 1)
				if p != 0 && crc.Sum(changed(b, at, uint64(p))) == sum {
					t.Fatalf("the sum of % X does not tell the bits %08X from bit %d on", b, p, at)
				}
			}
		}
	}
}

// P1.2, for all patterns of 32 bits at once: sums are linear in the bits that are turned over, so no pattern is hidden as long as the 32 single bits are independent.
func TestSumTellsEveryBurst(t *testing.T) {
	n := numbers(5)
	b := n.bytes(40)
	sum := crc.Sum(b)
	for range 1000 {
		at, p, q := int(n.next()%(40*8-32)), uint64(n.next()), uint64(n.next())
		apart := crc.Sum(changed(b, at, p)) ^ crc.Sum(changed(b, at, q)) ^ sum
		if got := crc.Sum(changed(b, at, p^q)); got != apart {
			t.Fatalf("not linear: bits %08X and %08X from bit %d on", p, q, at)
		}
	}
	for at := range 40*8 - 31 {
		var effects []uint32
		for i := range 32 {
			effects = append(effects, crc.Sum(changed(b, at, 1<<i))^sum)
		}
		if rank(effects) != 32 {
			t.Fatalf("bits from bit %d on hide one another", at)
		}
	}
}

// rank counts how many of the words are independent under exclusive or.
func rank(l []uint32) int {
	var lead [32]uint32
	count := 0
	for _, w := range l {
		for w != 0 && lead[bits.Len32(w)-1] != 0 {
			w ^= lead[bits.Len32(w)-1]
		}
		if w != 0 {
			lead[bits.Len32(w)-1] = w
			count++
		}
	}
	return count
}

// P1.2 names 32 bits, and 33 would be wrong: the one pattern of 33 bits that no sum tells. A sum of another polynomial tells it.
func TestSumHidesOnePatternOf33Bits(t *testing.T) {
	n := numbers(6)
	b := n.bytes(12)
	for at := range 12*8 - 32 {
		if crc.Sum(changed(b, at, 1|0xEDB88320<<1)) != crc.Sum(b) {
			t.Errorf("from bit %d on", at)
		}
	}
}

// P1.2: two parts, cut at every place, and three parts.
func TestExtendInParts(t *testing.T) {
	n := numbers(7)
	for _, b := range [][]byte{nil, {7}, []byte("123456789"), make([]byte, 20), n.bytes(100)} {
		for _, r := range []uint32{0, 0xFFFFFFFF, 0xEDB88320, n.next()} {
			whole := crc.Extend(r, b)
			for i := range len(b) + 1 {
				if got := crc.Extend(crc.Extend(r, b[:i]), b[i:]); got != whole {
					t.Fatalf("%d bytes, cut at %d: %08X, not %08X", len(b), i, got, whole)
				}
			}
		}
		for i := range len(b) + 1 {
			if got := ^crc.Extend(crc.Extend(0xFFFFFFFF, b[:i]), b[i:]); got != crc.Sum(b) {
				t.Fatalf("the sum of %d bytes, cut at %d: %08X, not %08X", len(b), i, got, crc.Sum(b))
			}
			for j := range i + 1 {
				if got := ^crc.Extend(crc.Extend(crc.Extend(0xFFFFFFFF, b[:j]), b[j:i]), b[i:]); got != crc.Sum(b) {
					t.Fatalf("the sum of %d bytes, cut at %d and %d: %08X", len(b), j, i, got)
				}
			}
		}
	}
}

// R3: the bytes handed in stay as they are, also those behind the end of the list, and only the bytes of the list count.
func TestArgumentsStay(t *testing.T) {
	n := numbers(8)
	all := n.bytes(64)
	before := bytes.Clone(all)
	part := all[10:30]
	sum := crc.Sum(part)
	if crc.Extend(5, part) != slowExtend(5, before[10:30]) || sum != slowSum(before[10:30]) {
		t.Error("other bytes than those of the list count")
	}
	if !bytes.Equal(all, before) {
		t.Error("the bytes handed in were changed")
	}
	clear(all)
	if crc.Extend(5, before[10:30]) != slowExtend(5, before[10:30]) || crc.Sum(part) == sum {
		t.Error("the bytes of an earlier call still count")
	}
}

// R4: a result depends on no earlier call, and calls at the same time do not disturb each other.
func TestCallsAreIndependent(t *testing.T) {
	n := numbers(9)
	text := n.bytes(300)
	want := slowSum(text)
	results := make(chan uint32)
	for i := range 8 {
		go func() {
			crc.Extend(uint32(i), text[:i*20])
			crc.Byte(uint32(i), byte(i))
			results <- crc.Sum(text)
		}()
	}
	for range 8 {
		if got := <-results; got != want {
			t.Errorf("Sum: %08X, not %08X", got, want)
		}
	}
}
