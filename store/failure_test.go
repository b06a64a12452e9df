package store_test

import (
	"bytes"
	"slices"
	"strconv"
	"testing"

	"davit/api"
	"davit/disk"
	"davit/sector"
	"davit/store"
)

// toSync stands for a Sync in a list of calls; a number from 0 on is the length of a record that is appended.
const toSync = -1

// toBegin returns what stands for a Begin with a record of this length.
func toBegin(size int) int {
	return -2 - size
}

// journal is what has to be read of the calls that returned OK: the records of the epoch, of which as many are sure to last.
type journal struct {
	epoch   uint32
	records [][]byte
	synced  int
}

// do makes one call of s, and notes it in j if it returns OK.
func (j *journal) do(s *store.Store, n *numbers, call int) api.Errno {
	if call == toSync {
		e := s.Sync()
		if e == api.OK {
			j.synced = len(j.records)
		}
		return e
	}
	if call < toSync {
		b := n.bytes(-2 - call)
		e := s.Begin(b)
		if e == api.OK {
			*j = journal{j.epoch + 1, [][]byte{b}, 1}
		}
		return e
	}
	b := n.bytes(call)
	e := s.Append(b)
	if e == api.OK {
		j.records = append(j.records, b)
	}
	return e
}

// doAll makes the calls up to the first error, which it returns.
func (j *journal) doAll(s *store.Store, n *numbers, calls []int) api.Errno {
	for _, call := range calls {
		if e := j.do(s, n, call); e != api.OK {
			return e
		}
	}
	return api.OK
}

// reopened checks, with the power on again, that the journal is not torn, and has the records that are sure to last, and no others than the first ones of j; it returns the store, and j becomes what was read.
func (j *journal) reopened(t *testing.T, what string, d *disk.Disk) *store.Store {
	t.Helper()
	s, l, e := store.Open(d)
	if e != api.OK {
		t.Fatalf("%s: Open returned the error %d, the disk has %q", what, e, told(t, d))
	}
	if s.Epoch() != j.epoch || len(l) < j.synced || len(l) > len(j.records) || !sameLists(l, j.records[:len(l)]) {
		t.Fatalf("%s: epoch %d with %d records, not %d with %d to %d", what, s.Epoch(), len(l), j.epoch, j.synced, len(j.records))
	}
	w, m, e := slowOpen(d)
	if e != api.OK || w.epoch != j.epoch || !sameLists(l, m) {
		t.Fatalf("%s: %d records, but the words say error %d with %d", what, len(l), e, len(m))
	}
	*j = journal{j.epoch, slices.Clone(l), len(l)}
	return s
}

// failed makes the calls on a disk that files tells, with a failure behind the steps, and turns the power on again.
func failed(t *testing.T, files string, calls []int, steps int, keep []bool) (*disk.Disk, journal, api.Errno) {
	t.Helper()
	n := numbers(7)
	d := diskOf(t, files)
	s, l := open(t, d)
	j := journal{s.Epoch(), l, len(l)}
	d.Fail(steps, keep)
	e := j.doAll(s, &n, calls)
	if (e == api.ErrDown) == d.On() {
		t.Fatalf("%d steps: error %d", steps, e)
	}
	d.Up()
	return d, j, e
}

// unsynced returns how many sectors differ between what remains at the best and at the worst.
func unsynced(t *testing.T, all, none *disk.Disk) int {
	t.Helper()
	count := 0
	other := content(t, none)
	for file, l := range content(t, all) {
		for i, b := range l {
			if !bytes.Equal(b, other[file][i]) {
				count++
			}
		}
	}
	return count
}

// P7.3: the power fails at each step of a longer list of calls, whatever remains of what was not synced.
func TestFailureAtEachStep(t *testing.T) {
	calls := []int{toBegin(1), 600, 20, toSync, 10, toBegin(700), 5, toSync, toSync, 0, 494, 30, toBegin(0), toBegin(2), 1000, 3, toSync, 40}
	for _, files := range []string{"", "1[1 -]", "0[4] 1[5] 2[4a 4b] 3[3a]"} {
		for steps := 0; ; steps++ {
			what := "behind " + strconv.Itoa(steps) + " steps"
			all, j, e := failed(t, files, calls, steps, allKept())
			if e == api.OK {
				if steps < 41 {
					t.Fatalf("the calls took only %d steps", steps)
				}
				break
			}
			must(t, what, e, api.ErrDown)
			none, k, _ := failed(t, files, calls, steps, nil)
			count := unsynced(t, all, none)
			written, synced := len(j.records), k.synced
			j.reopened(t, what+", all remains", all)
			k.reopened(t, what+", nothing remains", none)
			if len(j.records) != written || len(k.records) != synced {
				t.Fatalf("%s: %d and %d records, not %d and %d", what, len(j.records), len(k.records), written, synced)
			}
			for mask := range 1 << count {
				keep := make([]bool, count)
				for i := range keep {
					keep[i] = mask>>i&1 == 1
				}
				d, j, _ := failed(t, files, calls, steps, keep)
				j.reopened(t, what+", some remains", d)
			}
		}
	}
}

// P7.3: the power fails again, at each step of what is done behind the first failure, and the store still goes on then.
func TestFailureBehindAFailure(t *testing.T) {
	first := []int{toBegin(1), 2, toSync, 3, toBegin(600), 4}
	second := []int{toBegin(5), 6, toSync, 500}
	for steps := range 15 {
		for _, keep := range [][]bool{nil, allKept(), {true, false, true, false}} {
			for again := range 9 {
				for _, keepAgain := range [][]bool{nil, allKept(), {false, true, false, true}} {
					what := "behind " + strconv.Itoa(steps) + " steps and " + strconv.Itoa(again) + " more"
					d, j, e := failed(t, "", first, steps, keep)
					must(t, what, e, api.ErrDown)
					s := j.reopened(t, what, d)
					n := numbers(steps + 100)
					d.Fail(again, keepAgain)
					must(t, what, j.doAll(s, &n, second), api.ErrDown)
					d.Up()
					s = j.reopened(t, what, d)
					must(t, what+", the end", j.doAll(s, &n, second), api.OK)
					must(t, what+", the end", s.Sync(), api.OK)
					d.Crash(nil)
					d.Up()
					j.synced = len(j.records)
					j.reopened(t, what+", the end", d)
				}
			}
		}
	}
}

// P7.3: any calls, with failures planned anywhere, on disks with much room and with little.
func TestFailuresAnywhere(t *testing.T) {
	n := numbers(3)
	for range 80 {
		d := newDisk(t, 8+n.below(60))
		s, _ := open(t, d)
		j := journal{}
		for range 40 {
			call := toSync
			switch n.below(8) {
			case 0, 1:
				call = toBegin(n.below(1200))
			case 2, 3, 4:
				call = n.below(1200)
			case 5:
				d.Fail(n.below(12), n.bools(12))
			}
			if e := j.do(s, &n, call); e == api.OK || e == api.ErrNone && s.Size() == 0 {
				continue
			}
			// A store that is broken without a failure is left, and opened again behind one.
			d.Crash(n.bools(12))
			d.Up()
			s = j.reopened(t, "anywhere", d)
		}
	}
}

// slow is a store by the chapters' words, together with its segment; file 0 stands for none.
type slow struct {
	d             *disk.Disk
	epoch         uint32
	broken        bool
	file, sectors int
}

// slowRecords returns the records that are read from sectors.
func slowRecords(l [][]byte, epoch uint32) [][]byte {
	var records [][]byte
	var record []byte
	inside := false
	for i, b := range l {
		p, e := sector.Get(b)
		if e != api.OK || p.Epoch != epoch || p.Seq != uint32(i) || (p.Flags%2 == 1) == inside {
			break
		}
		record = append(record, p.Body...)
		inside = p.Flags/2 == 0
		if !inside {
			records = append(records, record)
			record = nil
		}
	}
	return records
}

func slowOpen(d *disk.Disk) (*slow, [][]byte, api.Errno) {
	if !d.On() {
		return nil, nil, api.ErrDown
	}
	if !slices.Contains(d.Files(), 0) {
		return &slow{d: d}, nil, api.OK
	}
	l, _ := d.Read(0)
	p, _ := sector.Get(l[0])
	if len(l) > 1 || !bytes.Equal(l[0], head(p.Epoch)) || p.Epoch == 0 {
		return nil, nil, api.ErrTorn
	}
	l, e := d.Read(2 + int(p.Epoch%2))
	records := slowRecords(l, p.Epoch)
	if e != api.OK || len(records) == 0 {
		return nil, nil, api.ErrTorn
	}
	return &slow{d: d, epoch: p.Epoch}, records, api.OK
}

// appendTo appends a record to a file, and returns how many sectors were written.
func (s *slow) appendTo(file int, epoch uint32, sectors int, b []byte) (int, api.Errno) {
	for i, x := range laid(epoch, uint32(sectors), b) {
		if e := s.d.Append(file, x); e != api.OK {
			s.broken = true
			return i, e
		}
	}
	return partsOf(len(b)), api.OK
}

func (s *slow) begin(b []byte) api.Errno {
	if s == nil || s.broken {
		return api.ErrDown
	}
	if len(b) > 20*493 || s.epoch == 1<<32-1 {
		return api.ErrFull
	}
	epoch := s.epoch + 1
	file := 2 + int(epoch%2)
	s.broken = true
	if !s.d.On() {
		return api.ErrDown
	}
	if slices.Contains(s.d.Files(), file) {
		if e := s.d.Remove(file); e != api.OK {
			return e
		}
	}
	sectors, e := s.appendTo(file, epoch, 0, b)
	if e != api.OK {
		return e
	}
	if e := s.d.Sync(file); e != api.OK {
		return e
	}
	if slices.Contains(s.d.Files(), 1) {
		if e := s.d.Remove(1); e != api.OK {
			return e
		}
	}
	if e := s.d.Append(1, head(epoch)); e != api.OK {
		return e
	}
	if e := s.d.Sync(1); e != api.OK {
		return e
	}
	if e := s.d.Rename(1, 0); e != api.OK {
		return e
	}
	*s = slow{d: s.d, epoch: epoch, file: file, sectors: sectors}
	return api.OK
}

func (s *slow) append(b []byte) api.Errno {
	if s == nil || s.broken {
		return api.ErrDown
	}
	if s.file == 0 {
		return api.ErrNone
	}
	if len(b) > 20*493 {
		return api.ErrFull
	}
	written, e := s.appendTo(s.file, s.epoch, s.sectors, b)
	s.sectors += written
	return e
}

func (s *slow) sync() api.Errno {
	if s == nil || s.broken {
		return api.ErrDown
	}
	if s.file == 0 {
		return api.ErrNone
	}
	e := s.d.Sync(s.file)
	s.broken = e != api.OK
	return e
}

// pair is the same twice: a disk with its stores, which may be nil, and a disk with slow ones.
type pair struct {
	d, slowDisk *disk.Disk
	stores      [2]*store.Store
	slows       [2]*slow
}

// open opens both disks, and checks that both return the same.
func (p *pair) open(t *testing.T, i int) {
	t.Helper()
	s, l, e := store.Open(p.d)
	w, m, want := slowOpen(p.slowDisk)
	must(t, "Open", e, want)
	if (s != nil) != (w != nil) || !sameLists(l, m) {
		t.Fatalf("Open: %v with %d records, not %d", s, len(l), len(m))
	}
	p.stores[i], p.slows[i] = s, w
}

// bothDisks does the same to both disks, beside the stores.
func (p *pair) bothDisks(t *testing.T, n *numbers) {
	t.Helper()
	from, to := n.below(5), n.below(5)
	steps, keep := n.below(16)-1, n.bools(10)
	kind, epoch := n.below(12), n.next()%4
	if epoch == 3 {
		epoch = 1<<32 - 1 - n.next()%2
	}
	for _, d := range []*disk.Disk{p.d, p.slowDisk} {
		switch kind {
		case 0:
			d.Remove(from)
		case 1:
			d.Rename(from, to)
		case 2:
			d.Append(from, blank())
		case 3:
			d.Append(from, head(epoch))
		case 4:
			d.Remove(0)
			d.Append(0, head(epoch))
			d.Remove(2 + int(epoch%2))
			d.Append(2+int(epoch%2), head(epoch))
		case 5:
			d.Crash(keep)
		case 6, 7, 8:
			d.Fail(steps, keep)
		default:
			d.Up()
		}
	}
}

// call makes one call, chosen by n, on both sides, and checks that both return the same error.
func (p *pair) call(t *testing.T, n *numbers) {
	t.Helper()
	i := n.below(2)
	s, w := p.stores[i], p.slows[i]
	b := n.bytes([]int{0, 1, 493, 494, 9860, 9861, n.below(3000), n.below(600), n.below(600), n.below(600)}[n.below(10)])
	switch n.below(12) {
	case 0, 1:
		p.open(t, i)
	case 2, 3, 4:
		must(t, "Begin", s.Begin(b), w.begin(b))
	case 5, 6, 7:
		must(t, "Append", s.Append(b), w.append(b))
	case 8, 9:
		must(t, "Sync", s.Sync(), w.sync())
	default:
		p.bothDisks(t, n)
	}
}

func (p *pair) agree(t *testing.T) {
	t.Helper()
	for i, s := range p.stores {
		w := p.slows[i]
		if w == nil {
			w = &slow{}
		}
		has(t, s, w.epoch, w.sectors)
	}
	if p.d.On() != p.slowDisk.On() {
		t.Fatalf("On: %v", p.d.On())
	}
	if p.d.On() {
		sameContent(t, "the disks", p.d, p.slowDisk)
	}
}

// P7.1 and P7.2: any calls of two stores on one disk, which others write to as well, as the words say.
func TestAnyCalls(t *testing.T) {
	n := numbers(11)
	for range 120 {
		room := 1 + n.below(60)
		p := pair{d: newDisk(t, room), slowDisk: newDisk(t, room)}
		for i := range p.stores {
			p.open(t, i)
		}
		for range 80 {
			p.call(t, &n)
			p.agree(t)
		}
	}
}

// P7.2, Begin: a file 0 that is written behind the back of a store is replaced, and a torn journal begun anew is not torn any more.
func TestBeginReplacesFile0(t *testing.T) {
	d := newDisk(t, 20)
	s := begun(t, d, 2, []byte("a"))
	put(t, d, 0, blank(), blank())
	opensNot(t, "three sectors", d, api.ErrTorn)
	must(t, "Begin", s.Begin([]byte("b")), api.OK)
	tells(t, "Begin", d, "0[3] 2[2a] 3[3b]")
	opens(t, d, 3, []byte("b"))
	must(t, "Remove", d.Remove(0), api.OK)
	must(t, "Begin", s.Begin([]byte("c")), api.OK)
	tells(t, "Begin", d, "0[4] 2[4c] 3[3b]")
	opens(t, d, 4, []byte("c"))
}

// P7.2: a failure that no call met, with a record lost in it, does not break the store either; what it appends behind that record is not read, until it begins anew.
func TestRecordLostBetweenCalls(t *testing.T) {
	d := newDisk(t, 20)
	s := begun(t, d, 2, []byte("a"))
	must(t, "Append", s.Append([]byte("b")), api.OK)
	d.Crash(nil)
	d.Up()
	must(t, "Append", s.Append([]byte("c")), api.OK)
	must(t, "Sync", s.Sync(), api.OK)
	tells(t, "a record lost", d, "0[2] 2[2a - 2c] 3[1*6]")
	opens(t, d, 2, []byte("a"))
	must(t, "Begin", s.Begin([]byte("d")), api.OK)
	opens(t, d, 3, []byte("d"))
}

// P7.2: of two stores on one disk each goes by its own epoch and segment, whatever the other one did.
func TestTwoStores(t *testing.T) {
	d := newDisk(t, 20)
	first := begun(t, d, 2, []byte("a"))
	second, _ := open(t, d)
	must(t, "Begin", second.Begin([]byte("b")), api.OK)
	must(t, "Append", first.Append([]byte("c")), api.OK)
	tells(t, "two stores", d, "0[3] 2[2a 2c] 3[3b]")
	has(t, first, 2, 2)
	must(t, "Begin", first.Begin([]byte("d")), api.OK)
	tells(t, "two stores", d, "0[3] 2[2a 2c] 3[3d]")
	has(t, first, 3, 1)
	has(t, second, 3, 1)
	opens(t, d, 3, []byte("d"))
}

// R3: Begin and Append neither change their bytes, also behind their end, nor keep them, also where they return an error.
func TestArgumentsAreLeft(t *testing.T) {
	for _, size := range []int{0, 1, 493, 494, 1000, 9860, 9861} {
		all := bytes.Repeat([]byte{9}, size+600)
		b := all[3 : 3+size]
		want := bytes.Clone(b)
		unchanged := func(what string) {
			t.Helper()
			if bytes.Count(all, []byte{9}) != len(all) {
				t.Fatalf("%s of %d bytes changed what it was given", what, size)
			}
		}
		d := newDisk(t, 100)
		s := opens(t, d, 0)
		e := s.Begin(b)
		unchanged("Begin")
		if size == 9861 {
			must(t, "Begin", e, api.ErrFull)
			must(t, "Begin", s.Begin([]byte("a")), api.OK)
			must(t, "Append", s.Append(b), api.ErrFull)
			unchanged("Append")
			continue
		}
		must(t, "Begin", e, api.OK)
		must(t, "Append", s.Append(b), api.OK)
		unchanged("Append")
		clear(all)
		must(t, "Append", s.Append([]byte("end")), api.OK)
		must(t, "Sync", s.Sync(), api.OK)
		opens(t, d, 1, want, want, []byte("end"))
		copy(all, bytes.Repeat([]byte{9}, len(all)))
		d.Fail(0, nil)
		must(t, "Append", s.Append(b), api.ErrDown)
		unchanged("Append with an error")
		must(t, "Begin", s.Begin(b), api.ErrDown)
		unchanged("Begin with an error")
		d.Up()
		opens(t, d, 1, want, want, []byte("end"))
	}
}

// R3: the records that Open returns share nothing with the disk, with each other, or with what Open returns again.
func TestRecordsAreNew(t *testing.T) {
	records := [][]byte{[]byte("abc"), bytes.Repeat([]byte("de"), 400), []byte("f")}
	d := newDisk(t, 20)
	putJournal(t, d, 4, records...)
	_, l := open(t, d)
	s, other := open(t, d)
	before := told(t, d)
	for i := range l {
		_ = append(l[i], 200, 200, 200, 200)
		clear(l[i])
		for j := i + 1; j < len(l); j++ {
			if !bytes.Equal(l[j], records[j]) {
				t.Errorf("record %d changes with record %d", j, i)
			}
		}
	}
	tells(t, "records cleared", d, before)
	opens(t, d, 4, records...)
	must(t, "Begin", s.Begin([]byte("z")), api.OK)
	must(t, "Begin", s.Begin([]byte("y")), api.OK)
	d.Crash(nil)
	if !sameLists(other, records) {
		t.Error("the records change with the disk")
	}
}

// R4: stores of different disks do not disturb each other, also at the same time.
func TestStoresAreIndependent(t *testing.T) {
	results := make(chan bool)
	for i := range 8 {
		go func() {
			n := numbers(i)
			d, _ := disk.New(100)
			s, _, e := store.Open(d)
			j := journal{}
			for range 6 {
				if e == api.OK {
					e = j.doAll(s, &n, []int{toBegin(100 * i), 30 * i, 500, toSync})
				}
			}
			again, l, f := store.Open(d)
			results <- e == api.OK && f == api.OK && again.Epoch() == 6 && sameLists(l, j.records)
		}()
	}
	for range 8 {
		if !<-results {
			t.Error("a store depends on others")
		}
	}
}
