package store_test

import (
	"bytes"
	"math"
	"slices"
	"strconv"
	"strings"
	"testing"

	"davit/api"
	"davit/disk"
	"davit/sector"
	"davit/store"
)

// The calls have exactly these signatures.
var (
	_ func(*disk.Disk) (*store.Store, [][]byte, api.Errno) = store.Open
	_ func(*store.Store, []byte) api.Errno                 = (*store.Store).Begin
	_ func(*store.Store, []byte) api.Errno                 = (*store.Store).Append
	_ func(*store.Store) api.Errno                         = (*store.Store).Sync
	_ func(*store.Store) int                               = (*store.Store).Size
	_ func(*store.Store) uint32                            = (*store.Store).Epoch
)

// numbers yields the same numbers in every test run.
type numbers uint64

func (n *numbers) next() uint32 {
	*n = *n*6364136223846793005 + 1442695040888963407
	return uint32(*n >> 32)
}

func (n *numbers) below(most int) int {
	return int(n.next()) % most
}

func (n *numbers) bytes(size int) []byte {
	b := make([]byte, size)
	for i := range b {
		b[i] = byte(n.next())
	}
	return b
}

func (n *numbers) bools(size int) []bool {
	l := make([]bool, size)
	for i := range l {
		l[i] = n.below(2) == 0
	}
	return l
}

func newDisk(t *testing.T, room int) *disk.Disk {
	t.Helper()
	d, e := disk.New(room)
	if e != api.OK {
		t.Fatalf("New(%d): error %d", room, e)
	}
	return d
}

func must(t *testing.T, what string, e, want api.Errno) {
	t.Helper()
	if e != want {
		t.Fatalf("%s: error %d, not %d", what, e, want)
	}
}

func sectorOf(epoch, seq uint32, flags int, body []byte) []byte {
	b, e := sector.Put(sector.Part{Epoch: epoch, Seq: seq, Flags: flags, Body: body})
	if e != api.OK {
		panic("no part")
	}
	return b
}

// head returns the sector of file 0.
func head(epoch uint32) []byte {
	return sectorOf(epoch, 0, 3, nil)
}

// blank returns what remains of a sector that was lost.
func blank() []byte {
	return make([]byte, 512)
}

// partsOf returns the number of parts of a record of this many bytes.
func partsOf(size int) int {
	return max(1, (size+492)/493)
}

// laid returns the sectors of these records, by the words of the chapters, with numbers from seq on.
func laid(epoch, seq uint32, records ...[]byte) [][]byte {
	var l [][]byte
	for _, b := range records {
		count := partsOf(len(b))
		for i := range count {
			flags := 0
			if i == 0 {
				flags++
			}
			if i == count-1 {
				flags += 2
			}
			l = append(l, sectorOf(epoch, seq, flags, b[493*i:min(493*i+493, len(b))]))
			seq++
		}
	}
	return l
}

func texts(l ...string) [][]byte {
	var m [][]byte
	for _, s := range l {
		m = append(m, []byte(s))
	}
	return m
}

func sameLists(a, b [][]byte) bool {
	return slices.EqualFunc(a, b, bytes.Equal)
}

// put appends the sectors to the file.
func put(t *testing.T, d *disk.Disk, file int, l ...[]byte) {
	t.Helper()
	for _, b := range l {
		must(t, "Append", d.Append(file, b), api.OK)
	}
}

// putJournal lays a journal on the disk, all of it synced.
func putJournal(t *testing.T, d *disk.Disk, epoch uint32, records ...[]byte) {
	t.Helper()
	file := 2 + int(epoch%2)
	put(t, d, 0, head(epoch))
	put(t, d, file, laid(epoch, 0, records...)...)
	must(t, "Sync", d.Sync(0), api.OK)
	must(t, "Sync", d.Sync(file), api.OK)
}

func open(t *testing.T, d *disk.Disk) (*store.Store, [][]byte) {
	t.Helper()
	s, l, e := store.Open(d)
	if e != api.OK || s == nil {
		t.Fatalf("Open: %v, error %d", s, e)
	}
	return s, l
}

// opens checks what Open returns for a disk that is not torn.
func opens(t *testing.T, d *disk.Disk, epoch uint32, records ...[]byte) *store.Store {
	t.Helper()
	s, l := open(t, d)
	if s.Epoch() != epoch || !sameLists(l, records) {
		t.Fatalf("Open: epoch %d with %d records, not %d with %d", s.Epoch(), len(l), epoch, len(records))
	}
	if s.Size() != 0 {
		t.Fatalf("Open: a store of size %d", s.Size())
	}
	return s
}

// opensNot checks that Open returns this error, and nothing else.
func opensNot(t *testing.T, what string, d *disk.Disk, want api.Errno) {
	t.Helper()
	if s, l, e := store.Open(d); e != want || s != nil || len(l) != 0 {
		t.Fatalf("%s: Open returned %v, %d records, error %d, not %d", what, s, len(l), e, want)
	}
}

// begun returns a store that has begun anew with these records, on a disk with a journal of the epoch before (or without files, for the epoch 1).
func begun(t *testing.T, d *disk.Disk, epoch uint32, records ...[]byte) *store.Store {
	t.Helper()
	if epoch > 1 {
		putJournal(t, d, epoch-1, []byte("before"))
	}
	s, _ := open(t, d)
	must(t, "Begin", s.Begin(records[0]), api.OK)
	for _, b := range records[1:] {
		must(t, "Append", s.Append(b), api.OK)
	}
	must(t, "Sync", s.Sync(), api.OK)
	return s
}

// has checks the epoch and the size of s.
func has(t *testing.T, s *store.Store, epoch uint32, size int) {
	t.Helper()
	if s.Epoch() != epoch || s.Size() != size {
		t.Fatalf("epoch %d and size %d, not %d and %d", s.Epoch(), s.Size(), epoch, size)
	}
}

// isBroken checks that s returns what a broken store does, for records, for what is too long for one, and for Sync.
func isBroken(t *testing.T, what string, s *store.Store) {
	t.Helper()
	must(t, what+", Append", s.Append([]byte("a")), api.ErrDown)
	must(t, what+", Append of no bytes", s.Append(nil), api.ErrDown)
	must(t, what+", Append of too much", s.Append(make([]byte, 9861)), api.ErrDown)
	must(t, what+", Sync", s.Sync(), api.ErrDown)
	must(t, what+", Begin", s.Begin([]byte("a")), api.ErrDown)
	must(t, what+", Begin of no bytes", s.Begin(nil), api.ErrDown)
	must(t, what+", Begin with too much", s.Begin(make([]byte, 9861)), api.ErrDown)
}

// staysBroken checks that s is broken, with its epoch and size, and does no step any more, now and with the power on again.
func staysBroken(t *testing.T, what string, d *disk.Disk, s *store.Store, epoch uint32, size int) {
	t.Helper()
	isBroken(t, what, s)
	has(t, s, epoch, size)
	d.Up()
	before := told(t, d)
	d.Fail(0, nil)
	isBroken(t, what+", power again", s)
	if !d.On() {
		t.Fatalf("%s: a broken store did a step", what)
	}
	d.Fail(-1, nil)
	isBroken(t, what+", no failure planned", s)
	has(t, s, epoch, size)
	if after := told(t, d); after != before {
		t.Fatalf("%s: a broken store made %q of %q", what, after, before)
	}
}

// toldSector tells a sector at this place of a file as a short text: epoch, flags if they are not 3, body or its length, and its number if it is not that of the place.
func toldSector(b []byte, place int) string {
	p, e := sector.Get(b)
	if bytes.Equal(b, blank()) {
		return "-"
	}
	if e != api.OK {
		return "?"
	}
	s := strconv.Itoa(int(p.Epoch))
	if p.Flags != 3 {
		s += "/" + strconv.Itoa(p.Flags)
	}
	if len(p.Body) > 3 {
		s += "*" + strconv.Itoa(len(p.Body))
	} else {
		s += string(p.Body)
	}
	if int(p.Seq) != place {
		s += "#" + strconv.Itoa(int(p.Seq))
	}
	return s
}

// told tells all files of a disk as a text, such as 0[2] 2[2a 2b].
func told(t *testing.T, d *disk.Disk) string {
	t.Helper()
	var files []string
	for _, file := range d.Files() {
		l, e := d.Read(file)
		must(t, "Read", e, api.OK)
		var sectors []string
		for i, b := range l {
			sectors = append(sectors, toldSector(b, i))
		}
		files = append(files, strconv.Itoa(file)+"["+strings.Join(sectors, " ")+"]")
	}
	return strings.Join(files, " ")
}

func tells(t *testing.T, what string, d *disk.Disk, want string) {
	t.Helper()
	if s := told(t, d); s != want {
		t.Fatalf("%s: the disk has %q, not %q", what, s, want)
	}
}

// content returns all sectors of all files, to hold two disks against each other.
func content(t *testing.T, d *disk.Disk) map[int][][]byte {
	t.Helper()
	m := map[int][][]byte{}
	for _, file := range d.Files() {
		l, e := d.Read(file)
		must(t, "Read", e, api.OK)
		m[file] = l
	}
	return m
}

func sameContent(t *testing.T, what string, a, b *disk.Disk) {
	t.Helper()
	if !slices.Equal(a.Files(), b.Files()) {
		t.Fatalf("%s: files %v, not %v", what, a.Files(), b.Files())
	}
	other := content(t, b)
	for file, l := range content(t, a) {
		if !sameLists(l, other[file]) {
			t.Fatalf("%s: file %d is another one: %q, not %q", what, file, told(t, a), told(t, b))
		}
	}
}

// allKept is a list of what remains that is longer than any number of sectors here.
func allKept() []bool {
	return slices.Repeat([]bool{true}, 100)
}

// P7.1, Open: a nil disk, and one whose power is off, whatever is on it.
func TestOpenWithoutPower(t *testing.T) {
	opensNot(t, "nil", nil, api.ErrDown)
	for what, lay := range map[string]func(*disk.Disk){
		"no files":  func(d *disk.Disk) {},
		"a journal": func(d *disk.Disk) { putJournal(t, d, 5, []byte("a")) },
		"torn":      func(d *disk.Disk) { put(t, d, 0, blank()) },
	} {
		d := newDisk(t, 10)
		lay(d)
		before := told(t, d)
		d.Crash(allKept())
		opensNot(t, what, d, api.ErrDown)
		if d.On() {
			t.Fatal("Open turned the power on")
		}
		d.Up()
		tells(t, what, d, before)
	}
}

// P7.1, Open: without file 0 the epoch is 0, and there are no records, whatever other files there are.
func TestOpenOfNoFile0(t *testing.T) {
	d := newDisk(t, 20)
	opens(t, d, 0)
	tells(t, "no files", d, "")
	put(t, d, 1, head(4))
	opens(t, d, 0)
	put(t, d, 2, laid(0, 0, []byte("a"), []byte("b"))...)
	opens(t, d, 0)
	put(t, d, 3, laid(1, 0, []byte("a"))...)
	put(t, d, 4, blank())
	opens(t, d, 0)
	must(t, "Rename", d.Rename(3, 0), api.OK)
	opensNot(t, "file 0", d, api.ErrTorn)
	must(t, "Remove", d.Remove(0), api.OK)
	opens(t, d, 0)
}

// P7.1, Open: journals of many epochs, read from the file of the epoch alone.
func TestOpenOfJournals(t *testing.T) {
	records := [][]byte{[]byte("a"), nil, make([]byte, 493), bytes.Repeat([]byte("xy"), 500), make([]byte, 9860), []byte("last")}
	for _, epoch := range []uint32{1, 2, 3, 4, 255, 256, 257, 65536, 1 << 24, math.MaxInt32, math.MaxInt32 + 1, math.MaxUint32 - 1, math.MaxUint32} {
		d := newDisk(t, 60)
		putJournal(t, d, epoch, records...)
		opens(t, d, epoch, records...)
		// The file of the other epochs, and the file 1, are not asked.
		put(t, d, 3-int(epoch%2), laid(epoch, 0, []byte("not this one"))...)
		put(t, d, 1, head(epoch+2))
		opens(t, d, epoch, records...)
		must(t, "Remove", d.Remove(1), api.OK)
		put(t, d, 1, blank(), blank())
		put(t, d, 4, laid(epoch, 0, []byte("nor this one"))...)
		opens(t, d, epoch, records...)
	}
}

// P7.1, Open: the first record may be any, and what does not go on as a segment of the epoch is not read.
func TestOpenOfWhatFollows(t *testing.T) {
	tests := []struct {
		what    string
		l       [][]byte
		records [][]byte
	}{
		{"a record of no bytes", laid(6, 0, nil), [][]byte{nil}},
		{"records of no bytes", laid(6, 0, nil, nil), [][]byte{nil, nil}},
		{"a record of 20 parts", laid(6, 0, make([]byte, 9860)), [][]byte{make([]byte, 9860)}},
		{"a blank sector behind", append(laid(6, 0, []byte("a")), blank()), texts("a")},
		{"a blank sector in between", slices.Concat(laid(6, 0, []byte("a")), [][]byte{blank()}, laid(6, 2, []byte("c"))), texts("a")},
		{"another epoch behind", slices.Concat(laid(6, 0, []byte("a")), laid(4, 1, []byte("b"))), texts("a")},
		{"the same number again", slices.Concat(laid(6, 0, []byte("a")), laid(6, 0, []byte("b"))), texts("a")},
		{"a record without its last part", laid(6, 0, []byte("a"), []byte("b"), make([]byte, 1000))[:4], texts("a", "b")},
		{"a part without the first one", append(laid(6, 0, []byte("a")), sectorOf(6, 1, 2, []byte("b"))), texts("a")},
	}
	for _, x := range tests {
		d := newDisk(t, 40)
		put(t, d, 0, head(6))
		put(t, d, 2, x.l...)
		s, l := open(t, d)
		if s.Epoch() != 6 || !sameLists(l, x.records) {
			t.Errorf("%s: epoch %d, records %q", x.what, s.Epoch(), l)
		}
	}
}

// P7.1, Open: each way in which file 0 can make a journal torn; file 2 and file 3 have records of the epoch that it could be taken for.
func TestOpenOfTornFile0(t *testing.T) {
	turned := head(6)
	turned[300] ^= 1
	tests := []struct {
		what string
		l    [][]byte
	}{
		{"a blank sector", [][]byte{blank()}},
		{"a sector of other bytes", [][]byte{bytes.Repeat([]byte{255}, 512)}},
		{"a bit turned", [][]byte{turned}},
		{"the sector twice", [][]byte{head(6), head(6)}},
		{"the sectors of two epochs", [][]byte{head(5), head(6)}},
		{"the sectors of two epochs, the later one first", [][]byte{head(6), head(5)}},
		{"a blank sector behind", [][]byte{head(6), blank()}},
		{"a blank sector ahead", [][]byte{blank(), head(6)}},
		{"three sectors", [][]byte{head(6), head(6), head(6)}},
		{"numbers that go on", [][]byte{head(6), sectorOf(6, 1, 3, nil)}},
		{"the number 1", [][]byte{sectorOf(6, 1, 3, nil)}},
		{"the number 2^31", [][]byte{sectorOf(6, 1<<31, 3, nil)}},
		{"the last number", [][]byte{sectorOf(6, math.MaxUint32, 3, nil)}},
		{"no flags", [][]byte{sectorOf(6, 0, 0, nil)}},
		{"the flag 1", [][]byte{sectorOf(6, 0, 1, nil)}},
		{"the flag 2", [][]byte{sectorOf(6, 0, 2, nil)}},
		{"a body of one byte", [][]byte{sectorOf(6, 0, 3, []byte{0})}},
		{"a longer body", [][]byte{sectorOf(6, 0, 3, []byte("body"))}},
		{"a body of 493 bytes", [][]byte{sectorOf(6, 0, 3, make([]byte, 493))}},
		{"the epoch 0", [][]byte{head(0)}},
	}
	for _, x := range tests {
		for _, epoch := range []uint32{0, 6} {
			d := newDisk(t, 10)
			put(t, d, 0, x.l...)
			put(t, d, 2, laid(epoch, 0, []byte("a"))...)
			put(t, d, 3, laid(5, 0, []byte("b"))...)
			opensNot(t, x.what, d, api.ErrTorn)
		}
	}
}

// P7.1, Open: a file 0 with any one bit turned makes the journal torn.
func TestOpenOfTurnedBits(t *testing.T) {
	for bit := range 512 * 8 {
		b := head(6)
		b[bit/8] ^= 1 << (bit % 8)
		d := newDisk(t, 10)
		put(t, d, 0, b)
		put(t, d, 2, laid(6, 0, []byte("a"))...)
		opensNot(t, "a bit turned", d, api.ErrTorn)
	}
}

// P7.1, Open: each way in which the file of the epoch can make a journal torn.
func TestOpenOfTornRecords(t *testing.T) {
	turned := laid(6, 0, []byte("a"))
	turned[0][20] ^= 128
	tests := []struct {
		what string
		l    [][]byte
	}{
		{"no file", nil},
		{"a blank sector", [][]byte{blank()}},
		{"a blank sector first", append([][]byte{blank()}, laid(6, 1, []byte("a"))...)},
		{"a bit turned", turned},
		{"records of the epoch before", laid(5, 0, []byte("a"))},
		{"records of the epoch two before", laid(4, 0, []byte("a"))},
		{"records of the next epoch of the file", laid(8, 0, []byte("a"))},
		{"records of the epoch 0", laid(0, 0, []byte("a"))},
		{"numbers from 1 on", laid(6, 1, []byte("a"), []byte("b"))},
		{"a record without its last part", laid(6, 0, make([]byte, 1000))[:2]},
		{"a record whose last part is blank", append(laid(6, 0, make([]byte, 1000))[:2], blank())},
		{"a record without its first part", [][]byte{sectorOf(6, 0, 2, []byte("a")), sectorOf(6, 1, 3, []byte("b"))}},
		{"a part without flags", [][]byte{sectorOf(6, 0, 0, []byte("a"))}},
	}
	for _, x := range tests {
		d := newDisk(t, 20)
		put(t, d, 0, head(6))
		put(t, d, 2, x.l...)
		put(t, d, 3, laid(6, 0, []byte("the other file"))...)
		put(t, d, 1, laid(6, 0, []byte("file 1"))...)
		opensNot(t, x.what, d, api.ErrTorn)
		// The same for an odd epoch, with the files in each other's place.
		d = newDisk(t, 20)
		put(t, d, 0, head(7))
		put(t, d, 2, laid(7, 0, []byte("the other file"))...)
		opensNot(t, x.what, d, api.ErrTorn)
		for i, b := range x.l {
			if p, e := sector.Get(b); e == api.OK {
				x.l[i] = sectorOf(p.Epoch+1, p.Seq, p.Flags, p.Body)
			}
		}
		put(t, d, 3, x.l...)
		opensNot(t, x.what, d, api.ErrTorn)
	}
}

// P7.1, Open: it does no step of the disk, and makes nothing synced, whatever it returns.
func TestOpenWritesNothing(t *testing.T) {
	lays := []func(*disk.Disk){
		func(d *disk.Disk) {},
		func(d *disk.Disk) { put(t, d, 1, blank()) },
		func(d *disk.Disk) {
			putJournal(t, d, 6, []byte("a"))
			put(t, d, 2, laid(6, 1, []byte("b"))...)
			put(t, d, 1, head(7))
		},
		func(d *disk.Disk) { put(t, d, 0, head(6)); put(t, d, 2, laid(6, 0, []byte("a"))...) },
		func(d *disk.Disk) { put(t, d, 0, blank()) },
		func(d *disk.Disk) { put(t, d, 0, head(6)) },
	}
	for i, lay := range lays {
		d, untouched := newDisk(t, 10), newDisk(t, 10)
		lay(d)
		lay(untouched)
		d.Fail(0, nil)
		first, l, e := store.Open(d)
		second, m, f := store.Open(d)
		if e != f || !sameLists(l, m) || first.Epoch() != second.Epoch() {
			t.Fatalf("disk %d: opened again, error %d and records %q, not %d and %q", i, f, m, e, l)
		}
		if !d.On() {
			t.Fatalf("disk %d: Open did a step", i)
		}
		sameContent(t, "behind Open", d, untouched)
		d.Crash(nil)
		untouched.Crash(nil)
		d.Up()
		untouched.Up()
		sameContent(t, "behind a failure", d, untouched)
	}
}

// P7.1, Epoch and Size: of a nil store, of one without a segment, and behind records.
func TestEpochAndSize(t *testing.T) {
	has(t, nil, 0, 0)
	d := newDisk(t, 200)
	s := opens(t, d, 0)
	has(t, s, 0, 0)
	for epoch := uint32(1); epoch < 6; epoch++ {
		want := 0
		for _, size := range []int{0, 493, 494, 1000, 9860, 1, 0} {
			b := make([]byte, size+int(epoch))
			if size == 9860 {
				b = b[:size]
			}
			if want == 0 {
				must(t, "Begin", s.Begin(b), api.OK)
			} else {
				must(t, "Append", s.Append(b), api.OK)
			}
			want += partsOf(len(b))
			has(t, s, epoch, want)
			must(t, "too much", s.Append(make([]byte, 9861)), api.ErrFull)
			must(t, "too much", s.Begin(make([]byte, 9861)), api.ErrFull)
			has(t, s, epoch, want)
			must(t, "Sync", s.Sync(), api.OK)
			has(t, s, epoch, want)
		}
		if epoch == 3 {
			s, _ = open(t, d)
			has(t, s, 3, 0)
		}
	}
	d.Crash(nil)
	has(t, s, 5, 30)
}

// P7.1, Size: a record of which a part could not be written counts with the sectors that were.
func TestSizeInsideARecord(t *testing.T) {
	for written := range 5 {
		d := newDisk(t, 50)
		s := begun(t, d, 4, []byte("a"), []byte("b"))
		d.Fail(written, nil)
		must(t, "Append", s.Append(make([]byte, 493*5)), api.ErrDown)
		has(t, s, 4, 2+written)
		d.Up()
		has(t, s, 4, 2+written)
		opens(t, d, 4, texts("a", "b")...)
	}
}

// P7.2: a nil store is down, whatever is asked of it.
func TestNilStore(t *testing.T) {
	isBroken(t, "nil", nil)
	has(t, nil, 0, 0)
}

// P7.2: without a segment there is nothing to append to, or to sync; that breaks nothing, and is asked ahead of the record and of the power.
func TestNoSegment(t *testing.T) {
	for _, epoch := range []uint32{0, 5, math.MaxUint32} {
		d := newDisk(t, 10)
		if epoch > 0 {
			putJournal(t, d, epoch, []byte("a"))
		}
		before := told(t, d)
		s, _ := open(t, d)
		refuses := func() {
			t.Helper()
			must(t, "Append", s.Append([]byte("b")), api.ErrNone)
			must(t, "Append of no bytes", s.Append(nil), api.ErrNone)
			must(t, "Append of too much", s.Append(make([]byte, 9861)), api.ErrNone)
			must(t, "Sync", s.Sync(), api.ErrNone)
			has(t, s, epoch, 0)
		}
		refuses()
		d.Fail(0, nil)
		refuses()
		d.Crash(nil)
		refuses()
		d.Up()
		refuses()
		tells(t, "no segment", d, before)
		if epoch == math.MaxUint32 {
			continue
		}
		must(t, "Begin", s.Begin([]byte("c")), api.OK)
		must(t, "Append", s.Append([]byte("b")), api.OK)
		has(t, s, epoch+1, 2)
	}
}

// P7.2: a store without a segment that is broken says ErrDown ahead of ErrNone.
func TestNoSegmentAndBroken(t *testing.T) {
	for _, epoch := range []uint32{0, 5} {
		d := newDisk(t, 10)
		if epoch > 0 {
			putJournal(t, d, epoch, []byte("a"))
		}
		s, _ := open(t, d)
		d.Crash(nil)
		must(t, "Begin", s.Begin([]byte("b")), api.ErrDown)
		staysBroken(t, "no power", d, s, epoch, 0)
	}
}

// P7.2: what is too long for a record is refused without a step and breaks nothing, with and without a segment, power and room.
func TestTooMuch(t *testing.T) {
	d := newDisk(t, 47)
	s := opens(t, d, 0)
	refuses := func(segment bool) {
		t.Helper()
		before, epoch, size := "", s.Epoch(), s.Size()
		if d.On() {
			before = told(t, d)
			d.Fail(0, nil)
		}
		for _, n := range []int{9861, 9862, 10353, 10354, 65536, 65536 + 493, 1 << 20} {
			must(t, "Begin", s.Begin(make([]byte, n)), api.ErrFull)
			if segment {
				must(t, "Append", s.Append(make([]byte, n)), api.ErrFull)
			}
		}
		has(t, s, epoch, size)
		if d.On() {
			d.Fail(-1, nil)
			tells(t, "too much", d, before)
		}
	}
	refuses(false)
	d.Crash(nil)
	refuses(false)
	if d.On() {
		t.Fatal("the power is on")
	}
	d.Up()
	must(t, "Begin", s.Begin(make([]byte, 9860)), api.OK)
	refuses(true)
	must(t, "Append", s.Append(make([]byte, 9860)), api.OK)
	must(t, "Append", s.Append([]byte("b")), api.OK)
	must(t, "Sync", s.Sync(), api.OK)
	refuses(true)
	d.Crash(nil)
	refuses(true)
	d.Up()
	must(t, "Append", s.Append(make([]byte, 494)), api.OK)
	must(t, "Append", s.Append([]byte("c")), api.OK)
	must(t, "Sync", s.Sync(), api.OK)
	has(t, s, 1, 44)
	must(t, "another file", d.Append(9, blank()), api.OK)
	must(t, "another file", d.Append(9, blank()), api.OK)
	must(t, "no room", d.Append(9, blank()), api.ErrFull)
	refuses(true)
	must(t, "Sync", s.Sync(), api.OK)
	opens(t, d, 1, make([]byte, 9860), make([]byte, 9860), []byte("b"), make([]byte, 494), []byte("c"))
	must(t, "no room", s.Append(nil), api.ErrFull)
	staysBroken(t, "no room", d, s, 1, 44)
}

// P7.2, Begin: behind the last epoch there is none. That breaks nothing, does no step, and is asked ahead of the power.
func TestLastEpoch(t *testing.T) {
	d := newDisk(t, 20)
	s := begun(t, d, math.MaxUint32, []byte("a"))
	has(t, s, math.MaxUint32, 1)
	before := told(t, d)
	refuses := func() {
		t.Helper()
		must(t, "Begin", s.Begin([]byte("z")), api.ErrFull)
		must(t, "Begin with no bytes", s.Begin(nil), api.ErrFull)
		must(t, "Begin with too much", s.Begin(make([]byte, 9861)), api.ErrFull)
	}
	d.Fail(0, nil)
	refuses()
	d.Fail(-1, nil)
	tells(t, "the last epoch", d, before)
	must(t, "Append", s.Append([]byte("b")), api.OK)
	must(t, "Sync", s.Sync(), api.OK)
	has(t, s, math.MaxUint32, 2)
	d.Crash(nil)
	refuses()
	d.Up()
	must(t, "Append", s.Append([]byte("c")), api.OK)
	s = opens(t, d, math.MaxUint32, texts("a", "b", "c")...)
	refuses()
	must(t, "Append", s.Append([]byte("b")), api.ErrNone)
	must(t, "Sync", s.Sync(), api.ErrNone)
	d.Crash(nil)
	refuses()
}

// P7.2: a call that reaches the disk while the power is off breaks the store for good.
func TestPowerOffBreaks(t *testing.T) {
	calls := []struct {
		what string
		do   func(*store.Store) api.Errno
	}{
		{"Begin", func(s *store.Store) api.Errno { return s.Begin([]byte("z")) }},
		{"Append", func(s *store.Store) api.Errno { return s.Append([]byte("z")) }},
		{"Append of two sectors", func(s *store.Store) api.Errno { return s.Append(make([]byte, 494)) }},
		{"Sync", func(s *store.Store) api.Errno { return s.Sync() }},
	}
	for _, x := range calls {
		for _, planned := range []bool{false, true} {
			for epoch := uint32(1); epoch < 4; epoch++ {
				d := newDisk(t, 20)
				s := begun(t, d, epoch, []byte("a"), []byte("b"))
				if planned {
					d.Fail(0, nil)
				} else {
					d.Crash(nil)
				}
				must(t, x.what, x.do(s), api.ErrDown)
				staysBroken(t, x.what, d, s, epoch, 2)
				s = opens(t, d, epoch, texts("a", "b")...)
				must(t, "Begin", s.Begin([]byte("c")), api.OK)
				opens(t, d, epoch+1, []byte("c"))
			}
		}
	}
}

// P7.2: a power failure that no call met does not break the store.
func TestFailureThatNoCallMet(t *testing.T) {
	d := newDisk(t, 20)
	s := begun(t, d, 4, []byte("a"))
	d.Crash(nil)
	d.Up()
	must(t, "Append", s.Append([]byte("b")), api.OK)
	must(t, "Sync", s.Sync(), api.OK)
	has(t, s, 4, 2)
	d.Crash(nil)
	d.Up()
	opens(t, d, 4, texts("a", "b")...)
	must(t, "Begin", s.Begin([]byte("c")), api.OK)
	opens(t, d, 5, []byte("c"))
}

// P7.2, Append: a disk without room breaks the store with ErrFull, which is not that of a record that is too long.
func TestNoRoomBreaksByAppend(t *testing.T) {
	for room := range 4 {
		d := newDisk(t, 4+room)
		s := begun(t, d, 2, []byte("a"))
		tells(t, "two epochs", d, "0[2] 2[2a] 3[1*6]")
		must(t, "another file", d.Append(9, blank()), api.OK)
		must(t, "no room", s.Append(make([]byte, 493*room+1)), api.ErrFull)
		must(t, "Remove", d.Remove(9), api.OK)
		staysBroken(t, "no room", d, s, 2, 1+room)
		opens(t, d, 2, []byte("a"))
	}
}

// P7.2, Append: a file with 200 sectors breaks the store with ErrFull; what is too long for a record does not.
func TestFullFileBreaks(t *testing.T) {
	d := newDisk(t, 1000)
	s := opens(t, d, 0)
	must(t, "Begin", s.Begin(make([]byte, 9860)), api.OK)
	for range 9 {
		must(t, "Append", s.Append(make([]byte, 9860)), api.OK)
	}
	has(t, s, 1, 200)
	must(t, "too much", s.Append(make([]byte, 9861)), api.ErrFull)
	must(t, "Sync", s.Sync(), api.OK)
	must(t, "a full file", s.Append(nil), api.ErrFull)
	staysBroken(t, "a full file", d, s, 1, 200)
	s, l := open(t, d)
	if len(l) != 10 {
		t.Fatalf("Open: %d records", len(l))
	}
	must(t, "Begin", s.Begin([]byte("a")), api.OK)
	opens(t, d, 2, []byte("a"))
}

// P7.2, Begin: a disk without room, for the record or for file 1, breaks the store with ErrFull; the steps ahead were done.
func TestNoRoomBreaksByBegin(t *testing.T) {
	long := make([]byte, 1000)
	for room, want := range []string{
		"0[1] 1[1x] 3[1a 1b]",
		"0[1] 1[1x] 2[2/1*493] 3[1a 1b]",
		"0[1] 1[1x] 2[2/1*493 2/0*493] 3[1a 1b]",
	} {
		d := newDisk(t, 4+room)
		s := begun(t, d, 1, []byte("a"), []byte("b"))
		put(t, d, 1, sectorOf(1, 0, 3, []byte("x")))
		must(t, "no room for the record", s.Begin(long), api.ErrFull)
		tells(t, "no room for the record", d, want)
		staysBroken(t, "no room for the record", d, s, 1, 2)
		opens(t, d, 1, texts("a", "b")...)
	}
	// A file 1 that was left behind makes room for the sector that takes its place.
	d := newDisk(t, 7)
	s := begun(t, d, 1, []byte("a"), []byte("b"))
	put(t, d, 1, blank())
	must(t, "just enough room", s.Begin(long), api.OK)
	opens(t, d, 2, long)

	d = newDisk(t, 6)
	s = begun(t, d, 1, []byte("a"), []byte("b"))
	must(t, "no room for file 1", s.Begin(long), api.ErrFull)
	tells(t, "no room for file 1", d, "0[1] 2[2/1*493 2/0*493 2/2*14] 3[1a 1b]")
	staysBroken(t, "no room for file 1", d, s, 1, 2)
	d.Crash(nil)
	d.Up()
	tells(t, "the record was synced", d, "0[1] 2[2/1*493 2/0*493 2/2*14] 3[1a 1b]")
	opens(t, d, 1, texts("a", "b")...)
	s, _ = open(t, d)
	must(t, "a shorter record", s.Begin([]byte("c")), api.OK)
	opens(t, d, 2, []byte("c"))
}

// P7.2, Sync: an error of the disk that is not about power is returned, and breaks the store too.
func TestSyncOfAFileThatIsGone(t *testing.T) {
	for _, renamed := range []bool{false, true} {
		d := newDisk(t, 10)
		s := begun(t, d, 3, []byte("a"))
		if renamed {
			must(t, "Rename", d.Rename(3, 6), api.OK)
		} else {
			must(t, "Remove", d.Remove(3), api.OK)
		}
		must(t, "Sync", s.Sync(), api.ErrNone)
		staysBroken(t, "no file", d, s, 3, 1)
		opensNot(t, "no file", d, api.ErrTorn)
	}
}

// stage is a disk at which beginning anew with the record z is looked at, step by step.
type stage struct {
	what  string
	files string
	// The disk behind each number of steps, and a power failure then: all of what was not synced remains, or nothing.
	all, none []string
}

// stages returns the disks, written out: epochs 0 to 3, without file 1 and with one that was left behind.
func stages() []stage {
	return []stage{
		{
			"from 0", "",
			[]string{"", "3[1z]", "3[1z]", "1[1] 3[1z]", "1[1] 3[1z]", "0[1] 3[1z]"},
			[]string{"", "3[-]", "3[1z]", "1[-] 3[1z]", "1[1] 3[1z]", "0[1] 3[1z]"},
		},
		{
			"from 0, with file 1", "1[1]",
			[]string{"1[1]", "1[1] 3[1z]", "1[1] 3[1z]", "3[1z]", "1[1] 3[1z]", "1[1] 3[1z]", "0[1] 3[1z]"},
			[]string{"1[1]", "1[1] 3[-]", "1[1] 3[1z]", "3[1z]", "1[-] 3[1z]", "1[1] 3[1z]", "0[1] 3[1z]"},
		},
		{
			"from 1, without file 2", "0[1] 3[1a 1b]",
			[]string{"0[1] 3[1a 1b]", "0[1] 2[2z] 3[1a 1b]", "0[1] 2[2z] 3[1a 1b]", "0[1] 1[2] 2[2z] 3[1a 1b]", "0[1] 1[2] 2[2z] 3[1a 1b]", "0[2] 2[2z] 3[1a 1b]"},
			[]string{"0[1] 3[1a 1b]", "0[1] 2[-] 3[1a 1b]", "0[1] 2[2z] 3[1a 1b]", "0[1] 1[-] 2[2z] 3[1a 1b]", "0[1] 1[2] 2[2z] 3[1a 1b]", "0[2] 2[2z] 3[1a 1b]"},
		},
		{
			"from 2", "0[2] 2[2a] 3[1b 1c 1d]",
			[]string{"0[2] 2[2a] 3[1b 1c 1d]", "0[2] 2[2a]", "0[2] 2[2a] 3[3z]", "0[2] 2[2a] 3[3z]", "0[2] 1[3] 2[2a] 3[3z]", "0[2] 1[3] 2[2a] 3[3z]", "0[3] 2[2a] 3[3z]"},
			[]string{"0[2] 2[2a] 3[1b 1c 1d]", "0[2] 2[2a]", "0[2] 2[2a] 3[-]", "0[2] 2[2a] 3[3z]", "0[2] 1[-] 2[2a] 3[3z]", "0[2] 1[3] 2[2a] 3[3z]", "0[3] 2[2a] 3[3z]"},
		},
		{
			"from 2, with file 1", "0[2] 1[- 9x] 2[2a] 3[3b]",
			[]string{"0[2] 1[- 9x] 2[2a] 3[3b]", "0[2] 1[- 9x] 2[2a]", "0[2] 1[- 9x] 2[2a] 3[3z]", "0[2] 1[- 9x] 2[2a] 3[3z]", "0[2] 2[2a] 3[3z]", "0[2] 1[3] 2[2a] 3[3z]", "0[2] 1[3] 2[2a] 3[3z]", "0[3] 2[2a] 3[3z]"},
			[]string{"0[2] 1[- 9x] 2[2a] 3[3b]", "0[2] 1[- 9x] 2[2a]", "0[2] 1[- 9x] 2[2a] 3[-]", "0[2] 1[- 9x] 2[2a] 3[3z]", "0[2] 2[2a] 3[3z]", "0[2] 1[-] 2[2a] 3[3z]", "0[2] 1[3] 2[2a] 3[3z]", "0[3] 2[2a] 3[3z]"},
		},
		{
			"from 3, with file 1", "0[3] 1[4] 2[4z] 3[3a 3b] 7[-]",
			[]string{"0[3] 1[4] 2[4z] 3[3a 3b] 7[-]", "0[3] 1[4] 3[3a 3b] 7[-]", "0[3] 1[4] 2[4z] 3[3a 3b] 7[-]", "0[3] 1[4] 2[4z] 3[3a 3b] 7[-]", "0[3] 2[4z] 3[3a 3b] 7[-]", "0[3] 1[4] 2[4z] 3[3a 3b] 7[-]", "0[3] 1[4] 2[4z] 3[3a 3b] 7[-]", "0[4] 2[4z] 3[3a 3b] 7[-]"},
			[]string{"0[3] 1[4] 2[4z] 3[3a 3b] 7[-]", "0[3] 1[4] 3[3a 3b] 7[-]", "0[3] 1[4] 2[-] 3[3a 3b] 7[-]", "0[3] 1[4] 2[4z] 3[3a 3b] 7[-]", "0[3] 2[4z] 3[3a 3b] 7[-]", "0[3] 1[-] 2[4z] 3[3a 3b] 7[-]", "0[3] 1[4] 2[4z] 3[3a 3b] 7[-]", "0[4] 2[4z] 3[3a 3b] 7[-]"},
		},
	}
}

// diskOf returns a disk that told tells as this text, all of it synced; its sectors have the flags 3 and one digit as their epoch.
func diskOf(t *testing.T, files string) *disk.Disk {
	t.Helper()
	d := newDisk(t, 30)
	for f := range strings.SplitSeq(files, "] ") {
		if f == "" {
			continue
		}
		file := int(f[0] - '0')
		for i, s := range strings.Fields(strings.TrimSuffix(f[2:], "]")) {
			if s == "-" {
				put(t, d, file, blank())
			} else {
				put(t, d, file, sectorOf(uint32(s[0]-'0'), uint32(i), 3, []byte(s[1:])))
			}
		}
		must(t, "Sync", d.Sync(file), api.OK)
	}
	tells(t, "the disk to begin with", d, files)
	return d
}

// P7.2 and P7.3, Begin: the steps in their order, by what is on the disk when the power fails at each of them, and what the store has then.
func TestSteps(t *testing.T) {
	for _, x := range stages() {
		for _, keep := range [][]bool{nil, allKept()} {
			want := x.none
			if keep != nil {
				want = x.all
			}
			for steps := range want {
				what := x.what + ", steps " + strconv.Itoa(steps)
				d := diskOf(t, x.files)
				s, old := open(t, d)
				epoch := s.Epoch()
				d.Fail(steps, keep)
				e := s.Begin([]byte("z"))
				if steps == len(want)-1 {
					must(t, what, e, api.OK)
					has(t, s, epoch+1, 1)
					d.Crash(keep)
					d.Up()
					tells(t, what, d, want[steps])
					opens(t, d, epoch+1, []byte("z"))
					continue
				}
				must(t, what, e, api.ErrDown)
				if d.On() {
					t.Fatalf("%s: the power did not fail", what)
				}
				staysBroken(t, what, d, s, epoch, 0)
				tells(t, what, d, want[steps])
				opens(t, d, epoch, old...)
			}
		}
	}
}

// P7.2, Begin: the same steps for a store that has a segment; when one fails, it keeps that segment and its epoch.
func TestStepsOfAStoreWithASegment(t *testing.T) {
	long := bytes.Repeat([]byte("long"), 200)
	all := []string{
		"0[2] 2[2a 2b] 3[1*6]",
		"0[2] 2[2a 2b]",
		"0[2] 2[2a 2b] 3[3/1*493]",
		"0[2] 2[2a 2b] 3[3/1*493 3/2*307]",
		"0[2] 2[2a 2b] 3[3/1*493 3/2*307]",
		"0[2] 1[3] 2[2a 2b] 3[3/1*493 3/2*307]",
		"0[2] 1[3] 2[2a 2b] 3[3/1*493 3/2*307]",
		"0[3] 2[2a 2b] 3[3/1*493 3/2*307]",
	}
	for steps, want := range all {
		d := newDisk(t, 30)
		s := begun(t, d, 2, []byte("a"), []byte("b"))
		d.Fail(steps, allKept())
		e := s.Begin(long)
		if steps == len(all)-1 {
			must(t, "Begin", e, api.OK)
			has(t, s, 3, 2)
			tells(t, "Begin", d, want)
			must(t, "the next step", s.Sync(), api.ErrDown)
			staysBroken(t, "the next step", d, s, 3, 2)
			opens(t, d, 3, long)
			continue
		}
		must(t, "Begin", e, api.ErrDown)
		staysBroken(t, "Begin", d, s, 2, 2)
		tells(t, "Begin", d, want)
		opens(t, d, 2, texts("a", "b")...)
	}
}

// P7.2: behind Begin, Append and Sync are those of the new segment, and each epoch takes the file that the one before did not have.
func TestManyEpochs(t *testing.T) {
	n := numbers(1)
	d := newDisk(t, 100)
	s := opens(t, d, 0)
	var before [][]byte
	for epoch := uint32(1); epoch < 30; epoch++ {
		records := [][]byte{n.bytes(n.below(1500))}
		must(t, "Begin", s.Begin(records[0]), api.OK)
		for range n.below(4) {
			records = append(records, n.bytes(n.below(1500)))
			must(t, "Append", s.Append(records[len(records)-1]), api.OK)
		}
		must(t, "Sync", s.Sync(), api.OK)
		has(t, s, epoch, len(laid(epoch, 0, records...)))
		other := opens(t, d, epoch, records...)
		m := content(t, d)
		if !sameLists(m[0], [][]byte{head(epoch)}) || m[1] != nil || !sameLists(m[2+int(epoch%2)], laid(epoch, 0, records...)) || !sameLists(m[3-int(epoch%2)], laid(epoch-1, 0, before...)) {
			t.Fatalf("epoch %d: the disk has %q", epoch, told(t, d))
		}
		before = records
		if n.below(2) == 0 {
			s = other
		}
	}
}

// P7.2, Append and Sync: what is appended lasts once it is synced, and not before.
func TestSyncMakesRecordsLast(t *testing.T) {
	d := newDisk(t, 20)
	s := begun(t, d, 2, []byte("a"))
	must(t, "Append", s.Append([]byte("b")), api.OK)
	must(t, "Append", s.Append([]byte("c")), api.OK)
	opens(t, d, 2, texts("a", "b", "c")...)
	d.Fail(1, nil)
	must(t, "Sync", s.Sync(), api.OK)
	must(t, "Append", s.Append([]byte("d")), api.ErrDown)
	d.Up()
	opens(t, d, 2, texts("a", "b", "c")...)

	d = newDisk(t, 20)
	s = begun(t, d, 2, []byte("a"))
	must(t, "Append", s.Append([]byte("b")), api.OK)
	must(t, "Append", s.Append([]byte("c")), api.OK)
	d.Crash([]bool{true})
	d.Up()
	opens(t, d, 2, texts("a", "b")...)
	tells(t, "nothing else is lost", d, "0[2] 2[2a 2b -] 3[1*6]")
}

// P7.2, Begin: what was appended to the old segment and not synced does not keep it from beginning anew, nor is it synced by that.
func TestBeginWithRecordsThatAreNotSynced(t *testing.T) {
	d := newDisk(t, 20)
	s := begun(t, d, 2, []byte("a"))
	must(t, "Append", s.Append([]byte("b")), api.OK)
	must(t, "Begin", s.Begin([]byte("z")), api.OK)
	d.Crash(nil)
	d.Up()
	tells(t, "Begin", d, "0[3] 2[2a -] 3[3z]")
	opens(t, d, 3, []byte("z"))
}

// The example of the chapter: a disk without files has the epoch 0, and no records.
func TestChapterExample(t *testing.T) {
	s, l, e := store.Open(newDisk(t, 1))
	if s == nil || s.Epoch() != 0 || len(l) != 0 || e != api.OK {
		t.Errorf("Open: %v, %q, error %d", s, l, e)
	}
}
