package sector_test

import (
	"bytes"
	"encoding/binary"
	"hash/crc32"
	"math"
	"math/bits"
	"testing"

	"davit/api"
	"davit/crc"
	"davit/sector"
)

// The calls have exactly these signatures.
var (
	_ func(sector.Part) ([]byte, api.Errno) = sector.Put
	_ func([]byte) (sector.Part, api.Errno) = sector.Get
)

// numbers yields the same numbers in every test run.
type numbers uint64

func (n *numbers) next() uint32 {
	*n = *n*6364136223846793005 + 1442695040888963407
	return uint32(*n >> 32)
}

func (n *numbers) below(most int) int {
	return int(n.next()) % most
}

func (n *numbers) bytes(size int) []byte {
	b := make([]byte, size)
	for i := range b {
		b[i] = byte(n.next() >> 24)
	}
	return b
}

func (n *numbers) part() sector.Part {
	return sector.Part{Epoch: n.next(), Seq: n.next(), Flags: n.below(4), Body: n.bytes(n.below(494))}
}

// words are numbers of four bytes: the least and the greatest one, one bit alone, and numbers whose bytes all differ.
func words() []uint32 {
	l := []uint32{0, 1, 2, 255, 256, 258, 65535, 65536, math.MaxInt32, math.MaxInt32 + 1, math.MaxUint32 - 1, math.MaxUint32, 0x01020304, 0xF0E0D0C0}
	for i := range 32 {
		l = append(l, 1<<i)
	}
	return l
}

// someParts are parts of every flags with bodies of every length, and parts of every word as epoch and as number.
func someParts() []sector.Part {
	n := numbers(1)
	l := []sector.Part{
		{},
		{Epoch: 1, Seq: 258, Flags: 2, Body: []byte("hey")},
		{Epoch: math.MaxUint32, Seq: math.MaxUint32, Flags: 3, Body: bytes.Repeat([]byte{255}, 493)},
		{Flags: 3, Body: make([]byte, 493)},
		{Flags: 1, Body: []byte{}},
	}
	for size := range 494 {
		l = append(l, sector.Part{Epoch: n.next(), Seq: n.next(), Flags: size % 4, Body: n.bytes(size)})
	}
	for flags := range 4 {
		for _, size := range []int{0, 1, 255, 256, 257, 492, 493} {
			l = append(l, sector.Part{Epoch: 7, Seq: 9, Flags: flags, Body: n.bytes(size)})
		}
	}
	for _, w := range words() {
		l = append(l, sector.Part{Epoch: w, Seq: 5, Flags: 1, Body: []byte("a")}, sector.Part{Epoch: 5, Seq: w, Flags: 2}, sector.Part{Epoch: w, Seq: w, Body: n.bytes(493)})
	}
	return l
}

func same(p, q sector.Part) bool {
	return p.Epoch == q.Epoch && p.Seq == q.Seq && p.Flags == q.Flags && bytes.Equal(p.Body, q.Body)
}

func isZero(p sector.Part) bool {
	return p.Epoch == 0 && p.Seq == 0 && p.Flags == 0 && len(p.Body) == 0
}

// sealed returns a copy of b, which has 512 bytes, with the right sum.
func sealed(b []byte) []byte {
	return binary.LittleEndian.AppendUint32(bytes.Clone(b[:508]), crc32.ChecksumIEEE(b[:508]))
}

// slowPut is the sector by the chapter's words, with the library's numbers and sums.
func slowPut(p sector.Part) []byte {
	b := []byte{68, 86, 84, 49}
	b = binary.BigEndian.AppendUint32(b, p.Epoch)
	b = binary.BigEndian.AppendUint32(b, p.Seq)
	b = append(b, byte(p.Flags))
	b = binary.BigEndian.AppendUint16(b, uint16(len(p.Body)))
	b = append(b, p.Body...)
	for len(b) < 508 {
		b = append(b, 0)
	}
	return binary.LittleEndian.AppendUint32(b, crc32.ChecksumIEEE(b))
}

// slowGet asks for each thing that makes bytes a sector, one by one.
func slowGet(b []byte) (sector.Part, bool) {
	if len(b) != 512 || string(b[:4]) != "DVT1" || binary.LittleEndian.Uint32(b[508:]) != crc32.ChecksumIEEE(b[:508]) {
		return sector.Part{}, false
	}
	size := int(b[13])*256 + int(b[14])
	if b[12] > 3 || size > 493 || bytes.Count(b[15+size:508], []byte{0}) != 493-size {
		return sector.Part{}, false
	}
	return sector.Part{Epoch: binary.BigEndian.Uint32(b[4:]), Seq: binary.BigEndian.Uint32(b[8:]), Flags: int(b[12]), Body: b[15 : 15+size]}, true
}

func mustPut(t *testing.T, p sector.Part) []byte {
	t.Helper()
	b, e := sector.Put(p)
	if e != api.OK {
		t.Fatalf("Put of epoch %d, number %d, flags %d, %d bytes: error %d", p.Epoch, p.Seq, p.Flags, len(p.Body), e)
	}
	return b
}

// refused reports whether Get says that b is the sector of no part, and nothing else (R2).
func refused(b []byte) bool {
	p, e := sector.Get(b)
	return e == api.ErrForm && isZero(p)
}

func mustRefuse(t *testing.T, what string, b []byte) {
	t.Helper()
	if !refused(b) {
		p, e := sector.Get(b)
		t.Errorf("Get, %s: %v, error %d", what, p, e)
	}
}

// P3.1, Put: every field at its place, as the words say.
func TestPutLaysOutEveryPart(t *testing.T) {
	for _, p := range someParts() {
		if got, want := mustPut(t, p), slowPut(p); !bytes.Equal(got, want) {
			t.Fatalf("Put of epoch %d, number %d, flags %d, %d bytes: % X, not % X", p.Epoch, p.Seq, p.Flags, len(p.Body), got, want)
		}
	}
}

// P3.1, Put: sectors written out byte by byte, their sums among them.
func TestPutKnownSectors(t *testing.T) {
	full := bytes.Repeat([]byte{255}, 493)
	tests := []struct {
		p         sector.Part
		head, sum string
	}{
		{sector.Part{}, "DVT1\x00\x00\x00\x00\x00\x00\x00\x00\x00\x00\x00", "\xe8\xc4\x83\x7d"},
		{sector.Part{Epoch: 1, Seq: 258, Flags: 2, Body: []byte("hey")}, "DVT1\x00\x00\x00\x01\x00\x00\x01\x02\x02\x00\x03hey", "\x5b\x32\x26\xb8"},
		{sector.Part{Epoch: math.MaxUint32, Seq: 0x01020304, Flags: 3, Body: full}, "DVT1\xff\xff\xff\xff\x01\x02\x03\x04\x03\x01\xed" + string(full), "\x28\x60\x40\x2c"},
	}
	for i, x := range tests {
		want := append([]byte(x.head), make([]byte, 508-len(x.head))...)
		want = append(want, x.sum...)
		got := mustPut(t, x.p)
		if !bytes.Equal(got[:508], want[:508]) {
			t.Errorf("sector %d: % X, not % X", i, got[:508], want[:508])
		}
		if !bytes.Equal(got[508:], want[508:]) {
			t.Errorf("sector %d: the sum % X, not % X", i, got[508:], want[508:])
		}
	}
}

// P3.1, Put: what is no part is ErrArg, and no bytes come with it (R2).
func TestPutRefusesWhatIsNoPart(t *testing.T) {
	var l []sector.Part
	for _, flags := range []int{-1, 4, -2, -4, 5, 7, 8, 255, 256, 257, 259, -256, -253, 1 << 32, 1<<32 + 1, math.MaxInt, math.MinInt, math.MinInt + 1} {
		l = append(l, sector.Part{Flags: flags}, sector.Part{Epoch: 1, Seq: 2, Flags: flags, Body: []byte("abc")}, sector.Part{Flags: flags, Body: make([]byte, 494)})
	}
	for _, size := range []int{494, 495, 497, 498, 508, 512, 1000, 65535, 65536, 65537, 65536 + 493, 200000} {
		for flags := range 4 {
			l = append(l, sector.Part{Epoch: 1, Seq: 2, Flags: flags, Body: make([]byte, size)})
		}
	}
	for _, p := range l {
		if b, e := sector.Put(p); e != api.ErrArg || len(b) != 0 {
			t.Errorf("Put of flags %d, %d bytes: %d bytes, error %d", p.Flags, len(p.Body), len(b), e)
		}
	}
}

// P3.1, Put: flags from 0 to 3 and bodies of no bytes, nil, and of 493 bytes are those of a part.
func TestPutTakesTheEdges(t *testing.T) {
	for flags := range 4 {
		for _, body := range [][]byte{nil, {}, make([]byte, 493)} {
			if b, e := sector.Put(sector.Part{Flags: flags, Body: body}); e != api.OK || len(b) != 512 {
				t.Errorf("Put of flags %d, %d bytes: %d bytes, error %d", flags, len(body), len(b), e)
			}
		}
	}
	none, empty := mustPut(t, sector.Part{Seq: 3}), mustPut(t, sector.Part{Seq: 3, Body: []byte{}})
	if !bytes.Equal(none, empty) {
		t.Error("a nil body and an empty one have different sectors")
	}
}

// P3.1, Get: the part of each sector, by the words alone.
func TestGetReadsEveryPart(t *testing.T) {
	for _, p := range someParts() {
		if q, e := sector.Get(slowPut(p)); e != api.OK || !same(p, q) {
			t.Fatalf("Get of epoch %d, number %d, flags %d, %d bytes: %v, error %d", p.Epoch, p.Seq, p.Flags, len(p.Body), q, e)
		}
	}
}

// P3.1, Get: example 1 of the chapter, also with a right sum, and other bytes that say nothing.
func TestGetRefusesEmptySectors(t *testing.T) {
	mustRefuse(t, "nil", nil)
	mustRefuse(t, "no bytes", []byte{})
	mustRefuse(t, "512 bytes 0", make([]byte, 512))
	mustRefuse(t, "512 bytes 0 with their sum", sealed(make([]byte, 512)))
	mustRefuse(t, "512 bytes 255", bytes.Repeat([]byte{255}, 512))
	mustRefuse(t, "512 bytes 255 with their sum", sealed(bytes.Repeat([]byte{255}, 512)))
}

// P3.1, Get: a sector has 512 bytes, no fewer and no more.
func TestGetRefusesOtherLengths(t *testing.T) {
	for _, p := range []sector.Part{{}, {Epoch: 1, Seq: 2, Flags: 3, Body: []byte("abc")}, {Flags: 1, Body: bytes.Repeat([]byte{7}, 493)}} {
		b := slowPut(p)
		long := append(bytes.Clone(b), b...)
		long = append(long, b...)
		for size := range len(long) + 1 {
			if size == 512 {
				continue
			}
			if !refused(long[:size]) {
				t.Fatalf("Get of %d bytes that begin with a sector", size)
			}
		}
		mustRefuse(t, "511 bytes with nothing ahead", b[1:])
		mustRefuse(t, "513 bytes, one ahead", append([]byte{0}, b...))
		mustRefuse(t, "513 bytes, a 0 behind", append(bytes.Clone(b), 0))
		short := append(bytes.Clone(b[:507]), 0, 0, 0, 0)
		binary.LittleEndian.PutUint32(short[507:], crc32.ChecksumIEEE(short[:507]))
		mustRefuse(t, "511 bytes with the sum of 507", short)
		wide := append(bytes.Clone(b[:508]), 0, 0, 0, 0, 0)
		binary.LittleEndian.PutUint32(wide[509:], crc32.ChecksumIEEE(wide[:509]))
		mustRefuse(t, "513 bytes with the sum of 509", wide)
	}
}

// P3.1, Get: each of the first four bytes counts, whatever the sum says.
func TestGetRefusesWrongBeginnings(t *testing.T) {
	b := slowPut(sector.Part{Epoch: 1, Seq: 2, Flags: 3, Body: []byte("abc")})
	for i := range 4 {
		for c := range 256 {
			w := bytes.Clone(b)
			w[i] = byte(c)
			if byte(c) != b[i] && !(refused(w) && refused(sealed(w))) {
				t.Errorf("Get with %d as byte %d", c, i)
			}
		}
	}
	for _, mark := range []string{"1TVD", "dvt1", "DVT0", "DVT2", "\x00\x00\x00\x00"} {
		mustRefuse(t, "beginning "+mark, sealed(append([]byte(mark), b[4:]...)))
	}
}

// P3.1, Get: the sum is the one of the first 508 bytes, with its least significant byte first.
func TestGetRefusesWrongSums(t *testing.T) {
	for _, p := range someParts()[:40] {
		b := slowPut(p)
		sum := binary.LittleEndian.Uint32(b[508:])
		wrong := []uint32{bits.ReverseBytes32(sum), bits.Reverse32(sum), ^sum, sum + 1, sum - 1, sum ^ 1<<31, bits.RotateLeft32(sum, 16), 0, math.MaxUint32,
			crc32.ChecksumIEEE(b), crc32.ChecksumIEEE(b[4:508]), crc32.ChecksumIEEE(b[:507]), crc32.ChecksumIEEE(b[:15+len(p.Body)])}
		for _, w := range wrong {
			if w == sum { // behind a full body there is no byte 0, so that the last of these is the right one
				continue
			}
			c := bytes.Clone(b)
			binary.LittleEndian.PutUint32(c[508:], w)
			if !refused(c) {
				t.Fatalf("Get with the sum %08X instead of %08X", w, sum)
			}
		}
	}
}

// P3.1, Get: flags above 3 are those of no part, with a right sum.
func TestGetRefusesWrongFlags(t *testing.T) {
	for _, body := range [][]byte{nil, []byte("abc"), make([]byte, 493)} {
		b := slowPut(sector.Part{Epoch: 1, Seq: 2, Body: body})
		for flags := range 256 {
			b[12] = byte(flags)
			p, e := sector.Get(sealed(b))
			if flags <= 3 && (e != api.OK || p.Flags != flags) || flags > 3 && (e != api.ErrForm || !isZero(p)) {
				t.Errorf("Get with the flags %d: %v, error %d", flags, p, e)
			}
		}
	}
}

// P3.1, Get: a length above 493 is that of no part, with a right sum; 493 and less is, as all bytes are 0.
func TestGetRefusesWrongLengths(t *testing.T) {
	b := slowPut(sector.Part{Epoch: 1, Seq: 2, Flags: 1})
	for size := range 65536 {
		if size > 600 && size%251 != 0 && size < 65000 { // the edges, and some of those between
			continue
		}
		binary.BigEndian.PutUint16(b[13:], uint16(size))
		p, e := sector.Get(sealed(b))
		if size <= 493 && (e != api.OK || len(p.Body) != size) || size > 493 && (e != api.ErrForm || !isZero(p)) {
			t.Fatalf("Get with the length %d: %d bytes, error %d", size, len(p.Body), e)
		}
	}
}

// P3.1, Get: behind the body there are bytes 0 alone, whatever the sum says.
func TestGetRefusesBytesBehindTheBody(t *testing.T) {
	for _, size := range []int{0, 1, 3, 255, 256, 491, 492} {
		b := slowPut(sector.Part{Epoch: 1, Seq: 2, Flags: 1, Body: bytes.Repeat([]byte{9}, size)})
		for at := 15 + size; at < 508; at++ {
			for _, c := range []byte{1, 128, 255} {
				w := bytes.Clone(b)
				w[at] = c
				if !refused(sealed(w)) {
					t.Fatalf("Get with %d as byte %d, behind a body of %d bytes", c, at, size)
				}
			}
		}
	}
}

// spoiled returns a sector that is changed at a few places, mostly with a right sum.
func (n *numbers) spoiled() []byte {
	b := slowPut(n.part())
	for range n.below(3) {
		at := n.below(512)
		if n.below(2) == 0 { // the fields, and their highest and lowest values
			at = n.below(16)
		}
		b[at] = []byte{0, 1, 3, 4, 255, byte(n.next() >> 24)}[n.below(6)]
	}
	if n.below(8) == 0 {
		return b
	}
	return sealed(b)
}

// P3.1, Get: any bytes, as the words say; and what is a sector is what Put returns for its part (P3.2).
func TestGetOnAnyBytes(t *testing.T) {
	n := numbers(2)
	parts, others := 0, 0
	for round := range 20000 {
		b := n.spoiled()
		p, e := sector.Get(b)
		want, ok := slowGet(b)
		if ok != (e == api.OK) || !same(p, want) {
			t.Fatalf("round %d, Get of % X: %v, error %d", round, b, p, e)
		}
		if !ok {
			others++
			continue
		}
		parts++
		if c := mustPut(t, p); !bytes.Equal(c, b) {
			t.Fatalf("round %d, Put of what Get returned: % X, not % X", round, c, b)
		}
	}
	if parts < 1000 || others < 1000 {
		t.Errorf("%d sectors of parts and %d others: too few to tell", parts, others)
	}
}

// P3.2: what Put returned is got and put again.
func TestGetAndPutAgain(t *testing.T) {
	for _, p := range someParts() {
		b := mustPut(t, p)
		q, e := sector.Get(b)
		if e != api.OK || !same(p, q) {
			t.Fatalf("Get of what Put returned: %v, error %d, not %v", q, e, p)
		}
		if c := mustPut(t, q); !bytes.Equal(b, c) {
			t.Fatalf("Put of what Get returned: % X, not % X", c, b)
		}
	}
}

// P3.2: different parts have different sectors, since Get tells them apart.
func TestSectorsDiffer(t *testing.T) {
	p := sector.Part{Epoch: 1, Seq: 2, Flags: 1, Body: []byte{0}}
	others := []sector.Part{
		{Epoch: 2, Seq: 1, Flags: 1, Body: []byte{0}},
		{Epoch: 1, Seq: 3, Flags: 1, Body: []byte{0}},
		{Epoch: 1, Seq: 2, Flags: 2, Body: []byte{0}},
		{Epoch: 1, Seq: 2, Flags: 1, Body: nil},
		{Epoch: 1, Seq: 2, Flags: 1, Body: []byte{0, 0}},
		{Epoch: 1, Seq: 2, Flags: 1, Body: []byte{1}},
	}
	b := mustPut(t, p)
	for _, q := range others {
		if bytes.Equal(b, mustPut(t, q)) {
			t.Errorf("%v and %v have the same sector", p, q)
		}
	}
}

// changed returns a copy of b in which the bits of pattern are turned over, from bit at on, the least significant bit of a byte first.
func changed(b []byte, at int, pattern uint32) []byte {
	c := bytes.Clone(b)
	for ; pattern != 0; pattern &= pattern - 1 {
		i := at + bits.TrailingZeros32(pattern)
		c[i/8] ^= 1 << (i % 8)
	}
	return c
}

// P3.2: a sector that is changed within 32 consecutive bits, from every bit on, is the sector of no part.
func TestGetRefusesBursts(t *testing.T) {
	n := numbers(3)
	for _, p := range []sector.Part{{}, {Epoch: 1, Seq: 2, Flags: 3, Body: n.bytes(493)}, {Epoch: n.next(), Seq: n.next(), Flags: 1, Body: n.bytes(200)}} {
		b := mustPut(t, p)
		for at := range 4096 {
			room := ^uint32(0) >> max(0, at-(4096-32))
			for _, pattern := range []uint32{1, room, 0xEDB88320 & room, 1 | n.next()&room, 1 | n.next()&room} {
				if pattern != 0 && !refused(changed(b, at, pattern)) {
					t.Fatalf("Get with %08X turned over from bit %d on", pattern, at)
				}
			}
		}
	}
}

// P3.2, in the other order of a byte's bits: bytes that are next to each other, changed in any way, stay within 32 bits.
func TestGetRefusesFourBytesChanged(t *testing.T) {
	n := numbers(4)
	b := mustPut(t, sector.Part{Epoch: 3, Seq: 4, Flags: 2, Body: n.bytes(300)})
	for at := range 509 {
		for round := range 20 {
			c := bytes.Clone(b)
			copy(c[at:], n.bytes(1+round%4))
			if !bytes.Equal(b, c) && !refused(c) {
				t.Fatalf("Get with % X from byte %d on", c[at:at+4], at)
			}
		}
	}
}

// syndrome is what a single turned bit adds to the difference between the sum of a sector and the sum that is stored in it.
func syndrome(bit int) uint32 {
	b := make([]byte, 512)
	b[bit/8] ^= 1 << (bit % 8)
	return crc.Sum(b[:508]) ^ crc.Sum(make([]byte, 508)) ^ binary.LittleEndian.Uint32(b[508:])
}

// independent reports whether no exclusive or of some of l is 0.
func independent(l []uint32) bool {
	var lead [32]uint32
	for _, x := range l {
		for x != 0 && lead[bits.Len32(x)-1] != 0 {
			x ^= lead[bits.Len32(x)-1]
		}
		if x == 0 {
			return false
		}
		lead[bits.Len32(x)-1] = x
	}
	return true
}

// P3.2, all changes within 32 consecutive bits at once: sums are linear, so it is enough that the 32 bits that follow any bit have independent syndromes; the sum's own bits are among them, because it is stored in the order in which bits are fed.
func TestNoBurstIsHidden(t *testing.T) {
	all := make([]uint32, 4096)
	for i := range all {
		all[i] = syndrome(i)
	}
	for at := range 4096 - 31 {
		if !independent(all[at : at+32]) {
			t.Fatalf("some change within the 32 bits from bit %d on is hidden", at)
		}
	}
}

// R3: the arguments stay as they are, also behind their end.
func TestArgumentsStay(t *testing.T) {
	all := bytes.Repeat([]byte{9}, 600)
	before := bytes.Clone(all)
	b := mustPut(t, sector.Part{Epoch: 1, Body: all[2:4]})
	if !bytes.Equal(all, before) {
		t.Error("Put changed the body")
	}
	wide := append(bytes.Clone(b), 1, 2, 3)
	before = bytes.Clone(wide)
	if p, e := sector.Get(wide[:512]); e != api.OK || string(p.Body) != "\x09\x09" {
		t.Errorf("Get of a piece of a list: %v, error %d", p, e)
	}
	wide[20] = 1
	before[20] = 1
	sector.Get(wide[:512])
	if !bytes.Equal(wide, before) {
		t.Error("Get changed its bytes")
	}
}

// R3: results are new memory: who changes one, or appends to it, changes nothing else, and the other way round.
func TestResultsAreNew(t *testing.T) {
	body := []byte("abc")
	p := sector.Part{Epoch: 1, Seq: 2, Flags: 3, Body: body}
	want := slowPut(p)
	b, c := mustPut(t, p), mustPut(t, p)
	clear(b)
	if string(body) != "abc" || !bytes.Equal(c, want) || !bytes.Equal(mustPut(t, p), want) {
		t.Error("a sector shares memory with its part or with another one")
	}
	q, _ := sector.Get(c)
	r, _ := sector.Get(c)
	clear(q.Body)
	_ = append(q.Body, 200, 200, 200)
	if !bytes.Equal(c, want) || string(r.Body) != "abc" {
		t.Error("a body shares memory with its sector or with another one")
	}
	clear(c)
	if string(r.Body) != "abc" {
		t.Error("a body changes with the sector that it was got from")
	}
}

// R4: calls do not depend on those before them, nor on what is left of larger ones.
func TestCallsAreIndependent(t *testing.T) {
	small := sector.Part{Epoch: 1, Body: []byte("a")}
	want := mustPut(t, small)
	for _, p := range someParts()[:50] {
		sector.Get(mustPut(t, p))
		sector.Get(bytes.Repeat([]byte{255}, 512))
		sector.Put(sector.Part{Flags: 9, Body: bytes.Repeat([]byte{255}, 493)})
		if !bytes.Equal(mustPut(t, small), want) {
			t.Fatal("Put depends on earlier calls")
		}
		if q, e := sector.Get(want); e != api.OK || !same(q, small) {
			t.Fatal("Get depends on earlier calls")
		}
	}
}
