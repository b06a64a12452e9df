package segment_test

import (
	"bytes"
	"math"
	"slices"
	"testing"

	"davit/api"
	"davit/disk"
	"davit/sector"
	"davit/segment"
)

// The calls have exactly these signatures.
var (
	_ func(*disk.Disk, int, uint32) (*segment.Segment, api.Errno) = segment.Begin
	_ func(*segment.Segment, []byte) api.Errno                    = (*segment.Segment).Append
	_ func(*segment.Segment) api.Errno                            = (*segment.Segment).Sync
	_ func(*segment.Segment) int                                  = (*segment.Segment).Size
	_ func([][]byte, uint32) ([][]byte, int)                      = segment.Scan
)

// numbers yields the same numbers in every test run.
type numbers uint64

func (n *numbers) next() uint32 {
	*n = *n*6364136223846793005 + 1442695040888963407
	return uint32(*n >> 32)
}

func (n *numbers) below(most int) int {
	return int(n.next()) % most
}

func (n *numbers) bytes(size int) []byte {
	b := make([]byte, size)
	for i := range b {
		b[i] = byte(n.next())
	}
	return b
}

func (n *numbers) bools(size int) []bool {
	l := make([]bool, size)
	for i := range l {
		l[i] = n.below(2) == 0
	}
	return l
}

func newDisk(t *testing.T, room int) *disk.Disk {
	t.Helper()
	d, e := disk.New(room)
	if e != api.OK {
		t.Fatalf("New(%d): error %d", room, e)
	}
	return d
}

func begin(t *testing.T, d *disk.Disk, file int, epoch uint32) *segment.Segment {
	t.Helper()
	s, e := segment.Begin(d, file, epoch)
	if e != api.OK || s == nil {
		t.Fatalf("Begin(d, %d, %d): %v, error %d", file, epoch, s, e)
	}
	return s
}

func must(t *testing.T, what string, e, want api.Errno) {
	t.Helper()
	if e != want {
		t.Fatalf("%s: error %d, not %d", what, e, want)
	}
}

func hasSize(t *testing.T, s *segment.Segment, size int) {
	t.Helper()
	if n := s.Size(); n != size {
		t.Fatalf("Size: %d, not %d", n, size)
	}
}

// fill appends these records to s.
func fill(t *testing.T, s *segment.Segment, records ...[]byte) {
	t.Helper()
	for _, b := range records {
		must(t, "Append", s.Append(b), api.OK)
	}
}

// sectorOf returns the sector of a part.
func sectorOf(epoch, seq uint32, flags int, body []byte) []byte {
	b, e := sector.Put(sector.Part{Epoch: epoch, Seq: seq, Flags: flags, Body: body})
	if e != api.OK {
		panic("no part")
	}
	return b
}

// blank returns what remains of a sector that was lost.
func blank() []byte {
	return make([]byte, 512)
}

// partsOf returns the number of parts of a record of this many bytes.
func partsOf(size int) int {
	return max(1, (size+492)/493)
}

// laid returns the sectors of these records, by the words of the chapters, with numbers from seq on.
func laid(epoch, seq uint32, records ...[]byte) [][]byte {
	var l [][]byte
	for _, b := range records {
		count := partsOf(len(b))
		for i := range count {
			flags := 0
			if i == 0 {
				flags++
			}
			if i == count-1 {
				flags += 2
			}
			l = append(l, sectorOf(epoch, seq, flags, b[493*i:min(493*i+493, len(b))]))
			seq++
		}
	}
	return l
}

func sameLists(a, b [][]byte) bool {
	return slices.EqualFunc(a, b, bytes.Equal)
}

func cloned(l [][]byte) [][]byte {
	var m [][]byte
	for _, b := range l {
		m = append(m, bytes.Clone(b))
	}
	return m
}

// holds checks that the file has exactly these sectors.
func holds(t *testing.T, d *disk.Disk, file int, want [][]byte) {
	t.Helper()
	l, e := d.Read(file)
	if e != api.OK || !sameLists(l, want) {
		t.Fatalf("file %d: error %d, %d sectors, not those %d that were expected", file, e, len(l), len(want))
	}
}

func hasFiles(t *testing.T, d *disk.Disk, files ...int) {
	t.Helper()
	if l := d.Files(); !slices.Equal(l, files) {
		t.Fatalf("files: %v, not %v", l, files)
	}
}

// mustScan checks what Scan returns.
func mustScan(t *testing.T, what string, l [][]byte, epoch uint32, records [][]byte, used int) {
	t.Helper()
	if got, n := segment.Scan(l, epoch); !sameLists(got, records) || n != used {
		t.Fatalf("%s: Scan returned %d records of %d sectors, not %d of %d", what, len(got), n, len(records), used)
	}
}

// reads checks what Scan returns for a file.
func reads(t *testing.T, d *disk.Disk, file int, epoch uint32, records [][]byte, used int) {
	t.Helper()
	l, e := d.Read(file)
	must(t, "Read", e, api.OK)
	mustScan(t, "a file", l, epoch, records, used)
}

// isBroken checks that s returns what a broken segment does, for a record, for what is too long for one, and for Sync.
func isBroken(t *testing.T, what string, s *segment.Segment) {
	t.Helper()
	must(t, what+", Append", s.Append([]byte("a")), api.ErrDown)
	must(t, what+", Append of no bytes", s.Append(nil), api.ErrDown)
	must(t, what+", Append of too much", s.Append(make([]byte, 9861)), api.ErrDown)
	must(t, what+", Sync", s.Sync(), api.ErrDown)
}

// P6.1, Begin: a nil disk, and one whose power is off, with any file.
func TestBeginWithoutPower(t *testing.T) {
	off := newDisk(t, 4)
	fill(t, begin(t, off, 3, 1), []byte("a"))
	off.Crash([]bool{true})
	for _, file := range []int{0, 3, 4, math.MaxInt, -1, math.MinInt} {
		for _, d := range []*disk.Disk{nil, off} {
			if s, e := segment.Begin(d, file, 7); e != api.ErrDown || s != nil {
				t.Errorf("Begin(%v, %d): %v, error %d", d, file, s, e)
			}
		}
	}
	if off.On() {
		t.Error("Begin turned the power on")
	}
	off.Up()
	hasFiles(t, off, 3)
	holds(t, off, 3, laid(1, 0, []byte("a")))
}

// P6.1, Begin: a file below 0, which is no step of the disk.
func TestBeginOfAFileBelowZero(t *testing.T) {
	d := newDisk(t, 4)
	fill(t, begin(t, d, 1, 1), []byte("a"))
	d.Fail(0, nil)
	for _, file := range []int{-1, -2, -200, math.MinInt, math.MinInt + 1} {
		if s, e := segment.Begin(d, file, 7); e != api.ErrArg || s != nil {
			t.Errorf("Begin(d, %d): %v, error %d", file, s, e)
		}
	}
	d.Fail(-1, nil)
	hasFiles(t, d, 1)
	holds(t, d, 1, laid(1, 0, []byte("a")))
}

// P6.1, Begin: a file that exists is removed, whatever it has; the others stay.
func TestBeginRemovesTheFile(t *testing.T) {
	for _, synced := range []bool{false, true} {
		d := newDisk(t, 10)
		for file := range 3 {
			s := begin(t, d, file, 5)
			fill(t, s, []byte("abc"), make([]byte, 600))
			if synced {
				must(t, "Sync", s.Sync(), api.OK)
			}
		}
		must(t, "Append", d.Append(1, blank()), api.OK)
		s := begin(t, d, 1, 6)
		hasSize(t, s, 0)
		hasFiles(t, d, 0, 2)
		for _, file := range []int{0, 2} {
			holds(t, d, file, laid(5, 0, []byte("abc"), make([]byte, 600)))
		}
		fill(t, s, []byte("z"))
		hasSize(t, s, 1)
		holds(t, d, 1, laid(6, 0, []byte("z")))
	}
}

// P6.1, Begin: removing the file is one step; if the power fails at it, there is no segment, and the file stays.
func TestBeginFailsToRemove(t *testing.T) {
	d := newDisk(t, 10)
	old := begin(t, d, 2, 5)
	fill(t, old, []byte("a"))
	must(t, "Sync", old.Sync(), api.OK)
	d.Fail(0, nil)
	if s, e := segment.Begin(d, 2, 6); e != api.ErrDown || s != nil {
		t.Fatalf("Begin: %v, error %d", s, e)
	}
	if d.On() {
		t.Fatal("the power did not fail")
	}
	d.Up()
	holds(t, d, 2, laid(5, 0, []byte("a")))
	d.Fail(1, nil)
	s := begin(t, d, 2, 6)
	hasFiles(t, d)
	must(t, "Append", s.Append([]byte("b")), api.ErrDown)
	d.Up()
	hasFiles(t, d)
}

// P6.1, Begin: a file that does not exist is not made, and nothing is a step.
func TestBeginOfNoFile(t *testing.T) {
	for _, file := range []int{0, 1, 3, 200, 1 << 40, math.MaxInt} {
		d := newDisk(t, 10)
		fill(t, begin(t, d, 2, 5), []byte("a"))
		d.Fail(0, nil)
		s := begin(t, d, file, 6)
		hasSize(t, s, 0)
		hasFiles(t, d, 2)
		d.Fail(-1, nil)
		fill(t, s, []byte("b"))
		holds(t, d, file, laid(6, 0, []byte("b")))
		holds(t, d, 2, laid(5, 0, []byte("a")))
	}
}

// P6.1, Begin: any epoch.
func TestBeginOfAnyEpoch(t *testing.T) {
	d := newDisk(t, 10)
	for _, epoch := range []uint32{0, 1, 2, 255, 256, 65536, math.MaxInt32, math.MaxInt32 + 1, math.MaxUint32 - 1, math.MaxUint32} {
		s := begin(t, d, 0, epoch)
		fill(t, s, make([]byte, 500), []byte("a"))
		holds(t, d, 0, laid(epoch, 0, make([]byte, 500), []byte("a")))
		reads(t, d, 0, epoch, [][]byte{make([]byte, 500), []byte("a")}, 3)
		reads(t, d, 0, epoch+1, nil, 0)
	}
}

// P6.1, Size: behind records of all kinds, and not behind anything else.
func TestSize(t *testing.T) {
	var none *segment.Segment
	hasSize(t, none, 0)
	d := newDisk(t, 100)
	s := begin(t, d, 2, 9)
	hasSize(t, s, 0)
	want := 0
	for _, size := range []int{0, 1, 493, 494, 986, 987, 9860, 0} {
		fill(t, s, make([]byte, size))
		want += partsOf(size)
		hasSize(t, s, want)
		must(t, "too much", s.Append(make([]byte, 9861)), api.ErrFull)
		must(t, "Sync", s.Sync(), api.OK)
		hasSize(t, s, want)
	}
	d.Crash(nil)
	hasSize(t, s, want)
	must(t, "Append", s.Append(nil), api.ErrDown)
	hasSize(t, s, want)
	d.Up()
	must(t, "Append", s.Append(nil), api.ErrDown)
	hasSize(t, s, want)
	must(t, "Remove", d.Remove(2), api.OK)
	hasSize(t, s, want)
	hasSize(t, begin(t, d, 2, 9), 0)
	hasSize(t, s, want)
}

// P6.1 and P6.2: the power fails at each sector of a record; those before it were written.
func TestFailureInsideARecord(t *testing.T) {
	n := numbers(1)
	first, long := n.bytes(700), n.bytes(9860)
	want := laid(4, 0, first, long)
	for written := range 20 {
		d := newDisk(t, 100)
		s := begin(t, d, 3, 4)
		fill(t, s, first)
		d.Fail(written, slices.Repeat([]bool{true}, 100))
		must(t, "Append", s.Append(long), api.ErrDown)
		hasSize(t, s, 2+written)
		if d.On() {
			t.Fatal("the power did not fail")
		}
		isBroken(t, "no power", s)
		d.Up()
		isBroken(t, "power again", s)
		hasSize(t, s, 2+written)
		holds(t, d, 3, want[:2+written])
		reads(t, d, 3, 4, [][]byte{first}, 2)
	}
}

// P6.2, Append: records of each length that matters, as they lie in the file.
func TestAppendOfEachLength(t *testing.T) {
	n := numbers(2)
	for _, size := range []int{0, 1, 2, 492, 493, 494, 985, 986, 987, 1478, 1479, 1480, 4930, 4931, 9366, 9367, 9368, 9859, 9860} {
		d := newDisk(t, 100)
		s := begin(t, d, 7, 3)
		b := n.bytes(size)
		fill(t, s, b)
		hasSize(t, s, partsOf(size))
		holds(t, d, 7, laid(3, 0, b))
		reads(t, d, 7, 3, [][]byte{b}, partsOf(size))
		fill(t, s, b, nil)
		hasSize(t, s, 2*partsOf(size)+1)
		holds(t, d, 7, laid(3, 0, b, b, nil))
		reads(t, d, 7, 3, [][]byte{b, b, nil}, 2*partsOf(size)+1)
	}
}

// P6.2, Append: what is too long for a record is refused, without a step; the segment is not broken, also while the power is off.
func TestAppendOfTooMuch(t *testing.T) {
	d := newDisk(t, 30)
	s := begin(t, d, 0, 3)
	sizes := []int{9861, 9862, 10000, 10353, 10354, 65536, 65536 + 493, 1 << 20}
	refuses := func() {
		t.Helper()
		size, files := s.Size(), d.Files()
		d.Fail(0, nil)
		for _, n := range sizes {
			must(t, "too much", s.Append(make([]byte, n)), api.ErrFull)
		}
		hasSize(t, s, size)
		hasFiles(t, d, files...)
		d.Fail(-1, nil)
	}
	refuses()
	must(t, "Sync", s.Sync(), api.OK)
	fill(t, s, []byte("a"))
	refuses()
	must(t, "Sync", s.Sync(), api.OK)
	d.Crash(nil)
	refuses()
	d.Up()
	fill(t, s, make([]byte, 9860))
	refuses()
	holds(t, d, 0, laid(3, 0, []byte("a"), make([]byte, 9860)))
	fill(t, s, []byte("b"))
	must(t, "Sync", s.Sync(), api.OK)
	reads(t, d, 0, 3, [][]byte{[]byte("a"), make([]byte, 9860), []byte("b")}, 22)
}

// P6.2, Append: the numbers go on over several records, with one epoch, whatever is done in between.
func TestNumbersGoOn(t *testing.T) {
	n := numbers(3)
	d := newDisk(t, 250)
	s, other := begin(t, d, 5, math.MaxUint32), begin(t, d, 6, 8)
	var records, others [][]byte
	for _, size := range []int{0, 494, 493, 1, 3000, 9860, 2, 0, 987, 5000} {
		b := n.bytes(size)
		fill(t, s, b)
		records = append(records, b)
		if size%2 == 0 {
			must(t, "Sync", s.Sync(), api.OK)
		}
		must(t, "too much", s.Append(make([]byte, 9861)), api.ErrFull)
		fill(t, other, b[:size/3])
		others = append(others, b[:size/3])
	}
	want := laid(math.MaxUint32, 0, records...)
	hasSize(t, s, len(want))
	holds(t, d, 5, want)
	holds(t, d, 6, laid(8, 0, others...))
	for i, b := range want {
		if p, e := sector.Get(b); e != api.OK || p.Seq != uint32(i) || p.Epoch != math.MaxUint32 {
			t.Fatalf("sector %d has the number %d and the epoch %d", i, p.Seq, p.Epoch)
		}
	}
	reads(t, d, 5, math.MaxUint32, records, len(want))
}

// P6.2: the errors of a nil segment, and which of several is returned (R2).
func TestNilSegment(t *testing.T) {
	isBroken(t, "nil", nil)
	hasSize(t, nil, 0)
}

// P6.2: a segment that is broken says ErrDown ahead of everything else, and stays so, also with the power on again, with a file again, and behind another Begin.
func TestBrokenStaysBroken(t *testing.T) {
	for _, bySync := range []bool{false, true} {
		d := newDisk(t, 10)
		s := begin(t, d, 1, 2)
		fill(t, s, []byte("a"))
		must(t, "Sync", s.Sync(), api.OK)
		d.Fail(0, nil)
		if bySync {
			must(t, "Sync", s.Sync(), api.ErrDown)
		} else {
			must(t, "Append", s.Append([]byte("b")), api.ErrDown)
		}
		isBroken(t, "no power", s)
		d.Up()
		d.Fail(0, nil)
		isBroken(t, "power again, no step", s)
		if !d.On() {
			t.Fatal("a broken segment did a step")
		}
		d.Fail(-1, nil)
		holds(t, d, 1, laid(2, 0, []byte("a")))
		fill(t, begin(t, d, 1, 3), []byte("c"))
		isBroken(t, "another segment of the file", s)
		hasSize(t, s, 1)
		holds(t, d, 1, laid(3, 0, []byte("c")))
	}
}

// P6.2: the first call while the power is off breaks the segment; calls that do not reach the disk don't.
func TestPowerOffBreaks(t *testing.T) {
	d := newDisk(t, 10)
	s, empty := begin(t, d, 1, 2), begin(t, d, 3, 2)
	fill(t, s, []byte("a"))
	d.Crash([]bool{true})
	must(t, "too much", s.Append(make([]byte, 9861)), api.ErrFull)
	must(t, "Sync of no sectors", empty.Sync(), api.OK)
	must(t, "Sync", s.Sync(), api.ErrDown)
	d.Up()
	isBroken(t, "behind Sync", s)
	fill(t, empty, []byte("b"))
	d.Crash(nil)
	must(t, "Append", empty.Append([]byte("c")), api.ErrDown)
	d.Up()
	isBroken(t, "behind Append", empty)
	hasSize(t, empty, 1)
	holds(t, d, 1, laid(2, 0, []byte("a")))
	holds(t, d, 3, [][]byte{blank()})
}

// P6.2: a power failure that no call of the segment met does not break it; its numbers go on.
func TestFailureThatNoCallMet(t *testing.T) {
	d := newDisk(t, 10)
	s := begin(t, d, 1, 2)
	fill(t, s, []byte("a"), []byte("b"))
	d.Crash([]bool{true})
	d.Up()
	fill(t, s, []byte("c"))
	must(t, "Sync", s.Sync(), api.OK)
	hasSize(t, s, 3)
	holds(t, d, 1, [][]byte{sectorOf(2, 0, 3, []byte("a")), blank(), sectorOf(2, 2, 3, []byte("c"))})
	reads(t, d, 1, 2, [][]byte{[]byte("a")}, 1)
}

// P6.2, Append: a disk without room breaks the segment with ErrFull, in the middle of a record too.
func TestNoRoomBreaks(t *testing.T) {
	long := make([]byte, 2000) // five parts
	for room := 2; room < 7; room++ {
		d := newDisk(t, room)
		must(t, "another file", d.Append(9, blank()), api.OK)
		s := begin(t, d, 0, 4)
		fill(t, s, []byte("a"))
		must(t, "no room", s.Append(long), api.ErrFull)
		hasSize(t, s, room-1)
		isBroken(t, "no room", s)
		must(t, "Remove", d.Remove(9), api.OK)
		isBroken(t, "room again", s)
		hasSize(t, s, room-1)
		holds(t, d, 0, laid(4, 0, []byte("a"), long)[:room-1])
		reads(t, d, 0, 4, [][]byte{[]byte("a")}, 1)
	}
	d := newDisk(t, 6)
	s := begin(t, d, 0, 4)
	fill(t, s, []byte("a"), long)
	must(t, "just enough room", s.Sync(), api.OK)
	must(t, "no room", s.Append(nil), api.ErrFull)
	isBroken(t, "no room", s)
	reads(t, d, 0, 4, [][]byte{[]byte("a"), long}, 6)
}

// P6.2, Append: a file with 200 sectors breaks the segment with ErrFull.
func TestFullFileBreaks(t *testing.T) {
	for _, last := range []int{9367, 9368} { // 19 parts, and 20
		d := newDisk(t, 1000)
		s := begin(t, d, 0, 4)
		var records [][]byte
		for range 9 {
			records = append(records, make([]byte, 9860))
		}
		fill(t, s, records...)
		fill(t, s, nil)
		hasSize(t, s, 181)
		e := s.Append(make([]byte, last))
		hasSize(t, s, 200)
		records = append(records, nil)
		if last == 9367 {
			must(t, "the 200th sector", e, api.OK)
			records = append(records, make([]byte, last))
			must(t, "Sync", s.Sync(), api.OK)
			must(t, "too much", s.Append(make([]byte, 9861)), api.ErrFull)
			must(t, "Sync", s.Sync(), api.OK)
			must(t, "a full file", s.Append(nil), api.ErrFull)
		} else {
			must(t, "the 201st sector", e, api.ErrFull)
		}
		isBroken(t, "a full file", s)
		used := 181
		if last == 9367 {
			used = 200
		}
		reads(t, d, 0, 4, records, used)
		fill(t, begin(t, d, 0, 5), []byte("a"))
	}
}

// P6.2, Sync: without sectors it does nothing, and returns OK, with or without a file, with or without power.
func TestSyncOfNoSectors(t *testing.T) {
	d := newDisk(t, 10)
	s := begin(t, d, 1, 2)
	d.Fail(0, nil)
	for range 3 {
		must(t, "Sync", s.Sync(), api.OK)
	}
	d.Fail(-1, nil)
	hasFiles(t, d)
	must(t, "Append", d.Append(1, bytes.Repeat([]byte{7}, 512)), api.OK)
	must(t, "Sync, a file of others", s.Sync(), api.OK)
	d.Crash(nil)
	must(t, "Sync, no power", s.Sync(), api.OK)
	if d.On() {
		t.Fatal("Sync turned the power on")
	}
	d.Up()
	holds(t, d, 1, [][]byte{blank()})
	must(t, "Remove", d.Remove(1), api.OK)
	fill(t, s, []byte("a"))
	must(t, "Sync", s.Sync(), api.OK)
	d.Crash(nil)
	d.Up()
	holds(t, d, 1, laid(2, 0, []byte("a")))
}

// P6.2, Sync: a segment that wrote no sector is broken all the same once the disk failed.
func TestSyncOfNoSectorsWhenBroken(t *testing.T) {
	d := newDisk(t, 10)
	s := begin(t, d, 1, 2)
	d.Fail(0, nil)
	must(t, "Append", s.Append([]byte("a")), api.ErrDown)
	hasSize(t, s, 0)
	isBroken(t, "no sectors", s)
	d.Up()
	isBroken(t, "no sectors, power again", s)
	hasFiles(t, d)
}

// P6.2, Sync: one step, of this file alone, that makes all sectors synced; Append makes none of them.
func TestSyncMakesSectorsSynced(t *testing.T) {
	d := newDisk(t, 20)
	s, other := begin(t, d, 2, 4), begin(t, d, 1, 4)
	fill(t, other, []byte("o"))
	fill(t, s, []byte("a"), make([]byte, 1000))
	d.Fail(1, []bool{false, true, false})
	must(t, "Sync", s.Sync(), api.OK)
	must(t, "Append", s.Append([]byte("b")), api.ErrDown)
	d.Up()
	holds(t, d, 1, [][]byte{blank()})
	holds(t, d, 2, laid(4, 0, []byte("a"), make([]byte, 1000)))

	s = begin(t, d, 2, 5)
	fill(t, s, []byte("a"))
	must(t, "Sync", s.Sync(), api.OK)
	fill(t, s, []byte("b"), []byte("c"))
	d.Crash([]bool{false, true})
	d.Up()
	holds(t, d, 2, [][]byte{sectorOf(5, 0, 3, []byte("a")), blank(), sectorOf(5, 2, 3, []byte("c"))})
}

// P6.2, Sync: an error of the disk that is not about power is returned, and breaks the segment too.
func TestSyncOfAFileThatIsGone(t *testing.T) {
	for _, renamed := range []bool{false, true} {
		d := newDisk(t, 10)
		s := begin(t, d, 2, 4)
		fill(t, s, []byte("a"))
		if renamed {
			must(t, "Rename", d.Rename(2, 6), api.OK)
		} else {
			must(t, "Remove", d.Remove(2), api.OK)
		}
		must(t, "Sync", s.Sync(), api.ErrNone)
		isBroken(t, "no file", s)
		hasSize(t, s, 1)
		must(t, "a file again", d.Append(2, blank()), api.OK)
		isBroken(t, "a file again", s)
	}
}

// P6.1 and P6.2: a segment writes to the file with its number, whatever others did to it.
func TestSegmentsOfOneFile(t *testing.T) {
	d := newDisk(t, 20)
	old := begin(t, d, 2, 4)
	fill(t, old, []byte("a"), []byte("b"))
	s := begin(t, d, 2, 5)
	must(t, "Sync, no file", s.Sync(), api.OK)
	fill(t, s, []byte("c"))
	fill(t, old, []byte("d"))
	hasSize(t, old, 3)
	hasSize(t, s, 1)
	must(t, "Sync", old.Sync(), api.OK)
	d.Crash(nil)
	d.Up()
	holds(t, d, 2, [][]byte{sectorOf(5, 0, 3, []byte("c")), sectorOf(4, 2, 3, []byte("d"))})
	reads(t, d, 2, 5, [][]byte{[]byte("c")}, 1)
	reads(t, d, 2, 4, nil, 0)
}

// The example of the chapter: three records are appended, with a Sync after the second one; after Crash(nil) two of them are read.
func TestChapterExample(t *testing.T) {
	d := newDisk(t, 20)
	s := begin(t, d, 2, 1)
	fill(t, s, []byte("one"), []byte("two"))
	must(t, "Sync", s.Sync(), api.OK)
	fill(t, s, []byte("three"))
	d.Crash(nil)
	d.Up()
	reads(t, d, 2, 1, [][]byte{[]byte("one"), []byte("two")}, 2)
}

// slowScan returns what Scan has to return, by the words of the chapters: first the sectors that are considered, then the longest row of whole records that they begin with.
func slowScan(l [][]byte, epoch uint32) ([][]byte, int) {
	var considered []sector.Part
	for len(considered) < len(l) {
		p, e := sector.Get(l[len(considered)])
		if e != api.OK || p.Epoch != epoch || int(p.Seq) != len(considered) {
			break
		}
		considered = append(considered, p)
	}
	var records [][]byte
	used := 0
	for end := used + 1; end <= len(considered); end++ {
		record, good := []byte{}, true
		for i := used; i < end; i++ {
			p := considered[i]
			first, last := p.Flags%2 == 1, p.Flags/2%2 == 1
			good = good && first == (i == used) && last == (i == end-1)
			record = append(record, p.Body...)
		}
		if good {
			records = append(records, record)
			used = end
		}
	}
	return records, used
}

// P6.3, Scan: lists written out, with the records and the number of sectors that they consist of.
func TestScanOfKnownLists(t *testing.T) {
	put := sectorOf
	a, b, c := put(6, 0, 3, []byte("a")), put(6, 1, 3, []byte("b")), put(6, 2, 3, []byte("c"))
	tests := []struct {
		what    string
		l       [][]byte
		records []string
		used    int
	}{
		{"none", nil, nil, 0},
		{"none, empty", [][]byte{}, nil, 0},
		{"one", [][]byte{a}, []string{"a"}, 1},
		{"a record of no bytes", [][]byte{put(6, 0, 3, nil)}, []string{""}, 1},
		{"three", [][]byte{a, b, c}, []string{"a", "b", "c"}, 3},
		{"a record of three sectors", [][]byte{a, put(6, 1, 1, []byte("b")), put(6, 2, 0, []byte("c")), put(6, 3, 2, []byte("d")), put(6, 4, 3, []byte("e"))}, []string{"a", "bcd", "e"}, 5},
		{"another epoch", [][]byte{put(5, 0, 3, []byte("a"))}, nil, 0},
		{"the next epoch", [][]byte{put(7, 0, 3, []byte("a"))}, nil, 0},
		{"another epoch, the first one", [][]byte{put(5, 0, 3, []byte("a")), b, c}, nil, 0},
		{"another epoch in between", [][]byte{a, put(5, 1, 3, []byte("b")), c}, []string{"a"}, 1},
		{"another epoch inside a record", [][]byte{a, put(6, 1, 1, []byte("b")), put(7, 2, 2, []byte("c"))}, []string{"a"}, 1},
		{"another epoch behind, the last one", [][]byte{a, b, put(6+1<<31, 2, 3, []byte("c"))}, []string{"a", "b"}, 2},
		{"numbers from 1 on", [][]byte{b, c}, nil, 0},
		{"the greatest number", [][]byte{put(6, math.MaxUint32, 3, []byte("z")), a}, nil, 0},
		{"a number is missing", [][]byte{a, c}, []string{"a"}, 1},
		{"a number twice", [][]byte{a, a, b}, []string{"a"}, 1},
		{"a number twice, later", [][]byte{a, b, b, c}, []string{"a", "b"}, 2},
		{"numbers in another order", [][]byte{a, c, b}, []string{"a"}, 1},
		{"numbers backwards", [][]byte{c, b, a}, nil, 0},
		{"all have the number 0", [][]byte{a, put(6, 0, 3, []byte("b"))}, []string{"a"}, 1},
		{"a number is missing inside a record", [][]byte{a, put(6, 1, 1, []byte("b")), put(6, 3, 2, []byte("c"))}, []string{"a"}, 1},
		{"zeros", [][]byte{blank()}, nil, 0},
		{"zeros first", [][]byte{blank(), b, c}, nil, 0},
		{"zeros in between", [][]byte{a, blank(), c}, []string{"a"}, 1},
		{"zeros in between, the number goes on behind", [][]byte{a, blank(), b}, []string{"a"}, 1},
		{"zeros last", [][]byte{a, b, blank()}, []string{"a", "b"}, 2},
		{"zeros inside a record", [][]byte{a, put(6, 1, 1, nil), blank(), put(6, 3, 2, nil)}, []string{"a"}, 1},
		{"the last part is missing", [][]byte{a, put(6, 1, 1, []byte("b")), put(6, 2, 0, []byte("c"))}, []string{"a"}, 1},
		{"the last part is missing, of the only record", [][]byte{put(6, 0, 1, []byte("b"))}, nil, 0},
		{"the last part is missing, a record follows", [][]byte{a, put(6, 1, 1, []byte("b")), c}, []string{"a"}, 1},
		{"the first part is missing", [][]byte{a, put(6, 1, 0, []byte("b")), put(6, 2, 2, []byte("c")), put(6, 3, 3, []byte("d"))}, []string{"a"}, 1},
		{"the first part is missing, of the first record", [][]byte{put(6, 0, 2, []byte("b")), b}, nil, 0},
		{"a nil sector", [][]byte{nil, b}, nil, 0},
		{"a nil sector in between", [][]byte{a, nil, b}, []string{"a"}, 1},
		{"511 bytes", [][]byte{a, b[:511], c}, []string{"a"}, 1},
		{"513 bytes", [][]byte{a, append(bytes.Clone(b), 0), c}, []string{"a"}, 1},
		{"1024 bytes", [][]byte{slices.Concat(a, b)}, nil, 0},
		{"a byte", [][]byte{a, b, {68}}, []string{"a", "b"}, 2},
		{"no bytes behind", [][]byte{a, b, {}}, []string{"a", "b"}, 2},
	}
	for _, x := range tests {
		var records [][]byte
		for _, s := range x.records {
			records = append(records, []byte(s))
		}
		mustScan(t, x.what, x.l, 6, records, x.used)
		if got, n := slowScan(x.l, 6); !sameLists(got, records) || n != x.used {
			t.Errorf("%s: the slow scan returned %q of %d sectors", x.what, got, n)
		}
	}
}

// P6.3, Scan: a sector that is turned in any one bit ends what is read, and the records ahead of it are read.
func TestScanOfTurnedBits(t *testing.T) {
	l := laid(6, 0, []byte("first"), make([]byte, 600), []byte("last"))
	records := [][]byte{[]byte("first"), make([]byte, 600), []byte("last")}
	// For each sector: how many records, and how many sectors, lie ahead of the record that it belongs to.
	ahead := [][2]int{{0, 0}, {1, 1}, {1, 1}, {2, 3}}
	for at, b := range l {
		for bit := at; bit < 512*8; bit += 3 {
			b[bit/8] ^= 1 << (bit % 8)
			mustScan(t, "a bit", l, 6, records[:ahead[at][0]], ahead[at][1])
			b[bit/8] ^= 1 << (bit % 8)
		}
	}
	mustScan(t, "no bit", l, 6, records, 4)
}

// P6.3, Scan: only the given epoch, of all 32 bits, is read.
func TestScanOfEpochs(t *testing.T) {
	for _, epoch := range []uint32{0, 1, 6, math.MaxInt32, math.MaxUint32} {
		l := laid(epoch, 0, []byte("a"), make([]byte, 600))
		mustScan(t, "its epoch", l, epoch, [][]byte{[]byte("a"), make([]byte, 600)}, 3)
		for bit := range 32 {
			mustScan(t, "another epoch", l, epoch^1<<bit, nil, 0)
		}
	}
	// The part that Get returns beside an error has the epoch 0 and the number 0.
	for _, b := range [][]byte{nil, blank()} {
		mustScan(t, "no sector first", [][]byte{b, sectorOf(0, 1, 3, []byte("b"))}, 0, nil, 0)
	}
}

// P6.3, Scan: only the right number, of all 32 bits, goes on.
func TestScanOfNumbers(t *testing.T) {
	for at := range uint32(3) {
		for bit := range 32 {
			l := laid(6, 0, []byte("a"), []byte("b"), []byte("c"))
			l[at] = sectorOf(6, at^1<<bit, 3, []byte("z"))
			mustScan(t, "another number", l, 6, [][]byte{[]byte("a"), []byte("b")}[:at], int(at))
		}
	}
}

// P6.3, Scan: many sectors, more than a file may have.
func TestScanOfManySectors(t *testing.T) {
	n := numbers(4)
	var records [][]byte
	for range 150 {
		records = append(records, n.bytes(n.below(1500)))
	}
	l := laid(9, 0, records...)
	if len(l) < 257 {
		t.Fatalf("only %d sectors", len(l))
	}
	mustScan(t, "many", l, 9, records, len(l))
	for range 20 {
		from := 1 + n.below(len(l)-1)
		mustScan(t, "from a later one on", l[from:], 9, nil, 0)
		got, used := segment.Scan(l[:from], 9)
		if want, count := slowScan(l[:from], 9); !sameLists(got, want) || used != count {
			t.Fatalf("%d sectors: %d records of %d sectors", from, len(got), used)
		}
	}
}

// P6.3, Scan: any lists that mostly follow the words.
func TestScanOfAnyLists(t *testing.T) {
	n := numbers(5)
	for round := range 1500 {
		var l [][]byte
		inside := false
		for i := range n.below(14) {
			flags, epoch, seq := 0, uint32(3), uint32(i)
			if !inside {
				flags = 1
			}
			if n.below(2) == 0 {
				flags += 2
			}
			inside = flags < 2
			switch n.below(60) {
			case 0:
				flags = n.below(4)
			case 1:
				epoch = n.next() % 5
			case 2:
				seq = n.next() % 14
			}
			b := sectorOf(epoch, seq, flags, n.bytes(n.below(494)))
			switch n.below(60) {
			case 0:
				b = blank()
			case 1:
				b[n.below(512)] ^= byte(1 + n.below(255))
			case 2:
				b = b[:n.below(512)]
			}
			l = append(l, b)
		}
		records, used := slowScan(l, 3)
		if got, count := segment.Scan(l, 3); !sameLists(got, records) || count != used {
			t.Fatalf("round %d: %d records of %d sectors, not %d of %d", round, len(got), count, len(records), used)
		}
	}
}

// toSync stands for a Sync in a list of calls; another number is the length of a record that is appended.
const toSync = -1

// progress is how far a list of calls gets until the power fails.
type progress struct {
	sectors, synced int
	// ends tells for each record that was appended whole how many sectors it ends behind.
	ends []int
}

// stepsOf returns the number of steps of the disk that a list of calls takes.
func stepsOf(calls []int) int {
	steps := 0
	for _, c := range calls {
		if c == toSync {
			steps++
		} else {
			steps += partsOf(c)
		}
	}
	return steps
}

// after returns the progress of the calls until the power fails behind this number of steps.
func after(calls []int, steps int) progress {
	var p progress
	for _, c := range calls {
		if steps == 0 {
			break
		}
		if c == toSync {
			p.synced = p.sectors
			steps--
			continue
		}
		done := min(partsOf(c), steps)
		p.sectors += done
		steps -= done
		if done == partsOf(c) {
			p.ends = append(p.ends, p.sectors)
		}
	}
	return p
}

// do makes the calls of s, up to the first error.
func do(s *segment.Segment, calls []int, records [][]byte) api.Errno {
	for i, c := range calls {
		e := api.OK
		if c == toSync {
			e = s.Sync()
		} else {
			e = s.Append(records[i])
		}
		if e != api.OK {
			return e
		}
	}
	return api.OK
}

// P6.1 to P6.4: the power fails at each step of a longer list of calls, whatever remains of what was not synced.
func TestFailureAtEachStep(t *testing.T) {
	n := numbers(6)
	calls := []int{0, 1, toSync, 1000, 493, toSync, toSync, 494, 0, 1500, toSync, 20, 1973}
	var records, appended [][]byte
	for _, c := range calls {
		b := n.bytes(max(c, 0))
		records = append(records, b)
		if c != toSync {
			appended = append(appended, b)
		}
	}
	want := laid(8, 0, appended...)
	for steps := range stepsOf(calls) {
		p := after(calls, steps)
		for mask := range 1 << (p.sectors - p.synced) {
			keep := make([]bool, p.sectors-p.synced)
			left := cloned(want[:p.sectors])
			whole := p.sectors
			for i := range keep {
				keep[i] = mask>>i&1 == 1
				if !keep[i] {
					clear(left[p.synced+i])
					whole = min(whole, p.synced+i)
				}
			}
			d := newDisk(t, 50)
			s := begin(t, d, 2, 8)
			d.Fail(steps, keep)
			must(t, "the calls", do(s, calls, records), api.ErrDown)
			hasSize(t, s, p.sectors)
			isBroken(t, "no power", s)
			d.Up()
			isBroken(t, "power again", s)
			hasSize(t, s, p.sectors)
			if p.sectors == 0 {
				hasFiles(t, d)
				continue
			}
			holds(t, d, 2, left)
			read, used := 0, 0
			for i, end := range p.ends {
				if end <= whole {
					read, used = i+1, end
				}
			}
			reads(t, d, 2, 8, appended[:read], used)
			// What the promise says by itself, beside the numbers above.
			for i, end := range p.ends {
				if end <= p.synced && i >= read {
					t.Fatalf("steps %d, mask %b: record %d was synced, and is not read", steps, mask, i)
				}
			}
		}
	}
	d := newDisk(t, 50)
	s := begin(t, d, 2, 8)
	d.Fail(stepsOf(calls), nil)
	must(t, "the calls", do(s, calls, records), api.OK)
	holds(t, d, 2, want)
	must(t, "Sync", s.Sync(), api.ErrDown)
}

// slow is a segment by the chapter's words.
type slow struct {
	d              *disk.Disk
	file, sectors  int
	epoch          uint32
	broken, exists bool
}

func slowBegin(d *disk.Disk, file int, epoch uint32) (slow, api.Errno) {
	if !d.On() {
		return slow{}, api.ErrDown
	}
	if file < 0 {
		return slow{}, api.ErrArg
	}
	if slices.Contains(d.Files(), file) {
		if e := d.Remove(file); e != api.OK {
			return slow{}, e
		}
	}
	return slow{d: d, file: file, epoch: epoch, exists: true}, api.OK
}

func (s *slow) append(b []byte) api.Errno {
	if !s.exists || s.broken {
		return api.ErrDown
	}
	if len(b) > 493*20 {
		return api.ErrFull
	}
	for _, x := range laid(s.epoch, uint32(s.sectors), b) {
		if e := s.d.Append(s.file, x); e != api.OK {
			s.broken = true
			return e
		}
		s.sectors++
	}
	return api.OK
}

func (s *slow) sync() api.Errno {
	if !s.exists || s.broken {
		return api.ErrDown
	}
	if s.sectors == 0 {
		return api.OK
	}
	e := s.d.Sync(s.file)
	s.broken = e != api.OK
	return e
}

// pair is the same twice: a disk with its segments, which may be nil, and a disk with slow ones.
type pair struct {
	d, slowDisk *disk.Disk
	segments    [2]*segment.Segment
	slows       [2]slow
}

// call makes one call, chosen by n, on both sides, and checks that both return the same error.
func (p *pair) call(t *testing.T, n *numbers) {
	t.Helper()
	i, file, epoch := n.below(2), n.below(4)-1, n.next()
	s, w := p.segments[i], &p.slows[i]
	switch n.below(20) {
	case 0, 1:
		s, e := segment.Begin(p.d, file, epoch)
		w, want := slowBegin(p.slowDisk, file, epoch)
		must(t, "Begin", e, want)
		if (s != nil) != w.exists {
			t.Fatalf("Begin: %v, error %d", s, e)
		}
		p.segments[i], p.slows[i] = s, w
	case 2, 3, 4, 5, 6, 7:
		b := n.bytes([]int{0, 1, 493, 494, 9860, 9861, n.below(3000), n.below(3000), n.below(600), n.below(600)}[n.below(10)])
		must(t, "Append", s.Append(b), w.append(b))
	case 8, 9, 10, 11:
		must(t, "Sync", s.Sync(), w.sync())
	case 12, 13:
		steps, keep := n.below(10)-1, n.bools(n.below(30))
		p.d.Fail(steps, keep)
		p.slowDisk.Fail(steps, keep)
	case 14:
		keep := n.bools(n.below(30))
		p.d.Crash(keep)
		p.slowDisk.Crash(keep)
	case 15:
		must(t, "Remove", p.d.Remove(file), p.slowDisk.Remove(file))
	case 16:
		must(t, "Rename", p.d.Rename(file, i), p.slowDisk.Rename(file, i))
	default:
		p.d.Up()
		p.slowDisk.Up()
	}
}

func (p *pair) agree(t *testing.T) {
	t.Helper()
	for i, s := range p.segments {
		hasSize(t, s, p.slows[i].sectors)
	}
	if p.d.On() != p.slowDisk.On() {
		t.Fatalf("On: %v", p.d.On())
	}
	hasFiles(t, p.d, p.slowDisk.Files()...)
	for _, file := range p.d.Files() {
		if want, e := p.slowDisk.Read(file); e == api.OK {
			holds(t, p.d, file, want)
		}
	}
}

// P6.1 and P6.2: any calls of two segments on one disk, as the words say.
func TestAnyCalls(t *testing.T) {
	n := numbers(7)
	for range 60 {
		room := 1 + n.below(60)
		p := pair{d: newDisk(t, room), slowDisk: newDisk(t, room)}
		for range 60 {
			p.call(t, &n)
			p.agree(t)
		}
	}
}

// R3: Append neither changes its bytes, also behind their end, nor keeps them, also where it returns an error.
func TestAppendLeavesItsArgument(t *testing.T) {
	for _, size := range []int{0, 1, 493, 494, 1000, 9860, 9861} {
		all := bytes.Repeat([]byte{9}, size+600)
		d := newDisk(t, 50)
		s := begin(t, d, 1, 2)
		e := s.Append(all[3 : 3+size])
		d.Fail(0, nil)
		s.Append(all[3 : 3+size])
		d.Up()
		d.Fail(-1, nil)
		s.Append(all[3 : 3+size])
		if bytes.Count(all, []byte{9}) != len(all) {
			t.Fatalf("Append of %d bytes changed what it was given", size)
		}
		clear(all)
		if size == 9861 {
			must(t, "Append", e, api.ErrFull)
			hasFiles(t, d)
			continue
		}
		must(t, "Append", e, api.OK)
		// The power failed at the second Append, before anything was synced.
		holds(t, d, 1, slices.Repeat([][]byte{blank()}, partsOf(size)))
		fill(t, begin(t, d, 1, 2), bytes.Repeat([]byte{9}, 600))
		holds(t, d, 1, laid(2, 0, bytes.Repeat([]byte{9}, 600)))
	}
	d := newDisk(t, 50)
	s := begin(t, d, 1, 2)
	b := []byte("abc")
	fill(t, s, b)
	b[0] = 'z'
	fill(t, s, b)
	clear(b)
	must(t, "Sync", s.Sync(), api.OK)
	reads(t, d, 1, 2, [][]byte{[]byte("abc"), []byte("zbc")}, 2)
}

// R3: Scan neither changes its sectors nor the list, also behind its end, nor keeps them; and its records share nothing with each other.
func TestScanLeavesItsArgument(t *testing.T) {
	records := [][]byte{[]byte("abc"), bytes.Repeat([]byte("de"), 400), []byte("f")}
	all := append(laid(3, 0, records...), blank(), []byte("x"))
	before := cloned(all)
	got, used := segment.Scan(all[:5], 3)
	other, _ := segment.Scan(all[:5], 3)
	if !sameLists(got, records) || used != 4 || !sameLists(all, before) {
		t.Fatal("Scan changed what it was given")
	}
	for i := range got {
		_ = append(got[i], 200, 200, 200, 200)
		clear(got[i])
		for j := range got {
			if j > i && !bytes.Equal(got[j], records[j]) {
				t.Errorf("record %d changes with record %d", j, i)
			}
		}
	}
	if !sameLists(all, before) {
		t.Error("a record shares memory with a sector")
	}
	for _, b := range all {
		clear(b)
	}
	clear(all)
	if !sameLists(other, records) {
		t.Error("Scan kept what it was given")
	}
}

// R4: segments of different disks do not disturb each other, also at the same time.
func TestSegmentsAreIndependent(t *testing.T) {
	results := make(chan bool)
	for i := range 8 {
		go func() {
			n := numbers(i)
			d, _ := disk.New(50)
			s, e := segment.Begin(d, i, uint32(i))
			var records [][]byte
			for e == api.OK && len(records) < 10 {
				records = append(records, n.bytes(150*i+50*len(records)))
				e = s.Append(records[len(records)-1])
			}
			l, _ := d.Read(i)
			got, used := segment.Scan(l, uint32(i))
			results <- e == api.OK && sameLists(got, records) && used == s.Size()
		}()
	}
	for range 8 {
		if !<-results {
			t.Error("a segment depends on others")
		}
	}
}
