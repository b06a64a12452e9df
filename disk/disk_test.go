package disk_test

import (
	"bytes"
	"math"
	"slices"
	"testing"

	"davit/api"
	"davit/disk"
)

// The calls have exactly these signatures.
var (
	_ func(int) (*disk.Disk, api.Errno)           = disk.New
	_ func(*disk.Disk, int, []byte) api.Errno     = (*disk.Disk).Append
	_ func(*disk.Disk, int) api.Errno             = (*disk.Disk).Sync
	_ func(*disk.Disk, int, int) api.Errno        = (*disk.Disk).Rename
	_ func(*disk.Disk, int) api.Errno             = (*disk.Disk).Remove
	_ func(*disk.Disk, int) ([][]byte, api.Errno) = (*disk.Disk).Read
	_ func(*disk.Disk) []int                      = (*disk.Disk).Files
	_ func(*disk.Disk, int, []bool)               = (*disk.Disk).Fail
	_ func(*disk.Disk, []bool)                    = (*disk.Disk).Crash
	_ func(*disk.Disk)                            = (*disk.Disk).Up
	_ func(*disk.Disk) bool                       = (*disk.Disk).On
)

// numbers yields the same numbers in every test run.
type numbers uint64

func (n *numbers) next() uint32 {
	*n = *n*6364136223846793005 + 1442695040888963407
	return uint32(*n >> 32)
}

func (n *numbers) below(most int) int {
	return int(n.next()) % most
}

func (n *numbers) bools(size int) []bool {
	l := make([]bool, size)
	for i := range l {
		l[i] = n.below(2) == 0
	}
	return l
}

// sector returns 512 bytes that tell id, none of them 0; for the id 0, bytes 0.
func sector(id int) []byte {
	b := make([]byte, 512)
	if id == 0 {
		return b
	}
	for i := range b {
		b[i] = byte(1 + (id>>(i%3*7)&127+i)%255)
	}
	return b
}

func newDisk(t *testing.T, room int) *disk.Disk {
	t.Helper()
	d, e := disk.New(room)
	if e != api.OK || d == nil {
		t.Fatalf("New(%d): error %d", room, e)
	}
	return d
}

func must(t *testing.T, what string, e, want api.Errno) {
	t.Helper()
	if e != want {
		t.Fatalf("%s: error %d, not %d", what, e, want)
	}
}

// fill appends the sectors of these ids to a file.
func fill(t *testing.T, d *disk.Disk, file int, ids ...int) {
	t.Helper()
	for _, id := range ids {
		must(t, "Append", d.Append(file, sector(id)), api.OK)
	}
}

// holds checks that the file has the sectors of these ids.
func holds(t *testing.T, d *disk.Disk, file int, ids ...int) {
	t.Helper()
	l, e := d.Read(file)
	if e != api.OK || len(l) != len(ids) {
		t.Fatalf("Read(%d): %d sectors, error %d, not %d sectors", file, len(l), e, len(ids))
	}
	for i, id := range ids {
		if !bytes.Equal(l[i], sector(id)) {
			t.Fatalf("Read(%d): sector %d is not the one of %d", file, i, id)
		}
	}
}

func hasFiles(t *testing.T, d *disk.Disk, files ...int) {
	t.Helper()
	if l := d.Files(); !slices.Equal(l, files) {
		t.Fatalf("Files: %v, not %v", l, files)
	}
}

// piece is one sector of a slow disk: in which file, and the sector of which id it is.
type piece struct {
	file, id int
	synced   bool
}

// slow is a disk by the chapter's words: a single row of sectors, in the order in which they were appended.
type slow struct {
	room, left int
	row        []piece
	keep       []bool
	on         bool
}

func newSlow(room int) *slow {
	return &slow{room: room, left: -1, on: true}
}

func (s *slow) files() []int {
	var l []int
	for _, p := range s.row {
		if !slices.Contains(l, p.file) {
			l = append(l, p.file)
		}
	}
	slices.Sort(l)
	return l
}

func (s *slow) ids(file int) []int {
	var l []int
	for _, p := range s.row {
		if p.file == file {
			l = append(l, p.id)
		}
	}
	return l
}

func (s *slow) has(file int) bool {
	return len(s.ids(file)) > 0
}

func (s *slow) crash(keep []bool) {
	var lost []*piece
	for _, file := range s.files() {
		for i := range s.row {
			if p := &s.row[i]; p.file == file && !p.synced {
				lost = append(lost, p)
			}
		}
	}
	for i, p := range lost {
		if !(i < len(keep) && keep[i]) {
			p.id = 0
		}
	}
	for i := range s.row {
		s.row[i].synced = true
	}
	s.on, s.left, s.keep = false, -1, nil
}

func (s *slow) fail(steps int, keep []bool) {
	s.left, s.keep = max(steps, -1), slices.Clone(keep)
}

// fails reports whether the power fails at this step.
func (s *slow) fails() bool {
	if s.left == 0 {
		s.crash(s.keep)
		return true
	}
	if s.left > 0 {
		s.left--
	}
	return false
}

func (s *slow) add(file, id, size int) api.Errno {
	switch {
	case !s.on:
		return api.ErrDown
	case file < 0 || size != 512:
		return api.ErrArg
	case len(s.row) == s.room || len(s.ids(file)) == 200:
		return api.ErrFull
	case s.fails():
		return api.ErrDown
	}
	s.row = append(s.row, piece{file: file, id: id})
	return api.OK
}

func (s *slow) sync(file int) api.Errno {
	switch {
	case !s.on:
		return api.ErrDown
	case !s.has(file):
		return api.ErrNone
	case s.fails():
		return api.ErrDown
	}
	for i := range s.row {
		s.row[i].synced = s.row[i].synced || s.row[i].file == file
	}
	return api.OK
}

func (s *slow) drop(file int) {
	s.row = slices.DeleteFunc(s.row, func(p piece) bool { return p.file == file })
}

func (s *slow) remove(file int) api.Errno {
	switch {
	case !s.on:
		return api.ErrDown
	case !s.has(file):
		return api.ErrNone
	case s.fails():
		return api.ErrDown
	}
	s.drop(file)
	return api.OK
}

func (s *slow) rename(from, to int) api.Errno {
	switch {
	case !s.on:
		return api.ErrDown
	case !s.has(from):
		return api.ErrNone
	case to < 0:
		return api.ErrArg
	case s.fails():
		return api.ErrDown
	case from == to:
		return api.OK
	}
	s.drop(to)
	for i := range s.row {
		if s.row[i].file == from {
			s.row[i].file = to
		}
	}
	return api.OK
}

// agree checks everything that can be asked of d without a step.
func agree(t *testing.T, d *disk.Disk, s *slow) {
	t.Helper()
	if d.On() != s.on {
		t.Fatalf("On: %v", d.On())
	}
	hasFiles(t, d, s.files()...)
	for _, file := range append(s.files(), -1, 77) {
		switch {
		case !s.on:
			l, e := d.Read(file)
			if e != api.ErrDown || len(l) != 0 {
				t.Fatalf("Read(%d), the power off: %d sectors, error %d", file, len(l), e)
			}
		case !s.has(file):
			l, e := d.Read(file)
			if e != api.ErrNone || len(l) != 0 {
				t.Fatalf("Read(%d), no file: %d sectors, error %d", file, len(l), e)
			}
		default:
			holds(t, d, file, s.ids(file)...)
		}
	}
}

// both does one call, chosen by n, of d and of s, and checks that both return the same error.
func both(t *testing.T, n *numbers, d *disk.Disk, s *slow, id int) {
	t.Helper()
	file, to := n.below(6)-1, n.below(6)-1
	switch n.below(16) {
	case 0, 1, 2, 3, 4:
		size := 512
		if n.below(12) == 0 {
			size = []int{0, 1, 511, 513}[n.below(4)]
		}
		must(t, "Append", d.Append(file, append(sector(id), 0)[:size]), s.add(file, id, size))
	case 5, 6, 7:
		must(t, "Sync", d.Sync(file), s.sync(file))
	case 8, 9:
		must(t, "Rename", d.Rename(file, to), s.rename(file, to))
	case 10:
		must(t, "Remove", d.Remove(file), s.remove(file))
	case 11, 12:
		steps, keep := n.below(9)-1, n.bools(n.below(12))
		d.Fail(steps, keep)
		s.fail(steps, keep)
	case 13:
		if keep := n.bools(n.below(12)); n.below(3) == 0 {
			d.Crash(keep)
			if s.on {
				s.crash(keep)
			}
		}
	default:
		d.Up()
		s.on = true
	}
}

// P5.1 to P5.3: any calls, as the words say.
func TestAnyCalls(t *testing.T) {
	n := numbers(1)
	for range 300 {
		room := 1 + n.below(20)
		d, s := newDisk(t, room), newSlow(room)
		for id := range 100 {
			both(t, &n, d, s, id+1)
			agree(t, d, s)
		}
	}
}

// P5.1, New: the edges of the room.
func TestNew(t *testing.T) {
	for _, room := range []int{1, 2, 199, 200, 201, 999, 1000} {
		d := newDisk(t, room)
		if !d.On() {
			t.Errorf("New(%d): the power is off", room)
		}
		hasFiles(t, d)
	}
	for _, room := range []int{0, -1, -1000, 1001, 1002, 1 << 16, 1<<32 + 1, 1<<40 + 500, math.MaxInt, math.MinInt} {
		if d, e := disk.New(room); e != api.ErrArg || d != nil {
			t.Errorf("New(%d): %v, error %d", room, d, e)
		}
	}
}

// P5.1, New: disks are independent of each other (R4).
func TestDisksAreIndependent(t *testing.T) {
	d, other := newDisk(t, 2), newDisk(t, 2)
	fill(t, d, 0, 1, 2)
	hasFiles(t, other)
	fill(t, other, 0, 3)
	d.Fail(0, nil)
	fill(t, other, 0, 4)
	d.Crash(nil)
	if !other.On() {
		t.Error("the power of another disk failed")
	}
	holds(t, other, 0, 3, 4)
}

// P5.1, Files: increasing order behind any calls, with numbers that are far apart, also while the power is off.
func TestFilesInOrder(t *testing.T) {
	d := newDisk(t, 20)
	hasFiles(t, d)
	for _, file := range []int{7, math.MaxInt, 0, 300, 10, 2, 1 << 40, 9} {
		fill(t, d, file, 1)
	}
	hasFiles(t, d, 0, 2, 7, 9, 10, 300, 1<<40, math.MaxInt)
	fill(t, d, 9, 2)
	must(t, "Sync", d.Sync(300), api.OK)
	hasFiles(t, d, 0, 2, 7, 9, 10, 300, 1<<40, math.MaxInt)
	must(t, "Rename", d.Rename(0, 8), api.OK)
	must(t, "Remove", d.Remove(10), api.OK)
	hasFiles(t, d, 2, 7, 8, 9, 300, 1<<40, math.MaxInt)
	must(t, "Rename", d.Rename(math.MaxInt, 2), api.OK)
	hasFiles(t, d, 2, 7, 8, 9, 300, 1<<40)
	d.Crash(nil)
	hasFiles(t, d, 2, 7, 8, 9, 300, 1<<40)
	d.Up()
	hasFiles(t, d, 2, 7, 8, 9, 300, 1<<40)
	for _, file := range d.Files() {
		must(t, "Remove", d.Remove(file), api.OK)
	}
	hasFiles(t, d)
}

// P5.2, Append: the errors, and which of several is returned (R2).
func TestAppendErrors(t *testing.T) {
	sizes := []int{0, 1, 511, 513, 1024, 512 + 1<<16}
	d := newDisk(t, 1)
	for _, size := range sizes {
		must(t, "wrong size", d.Append(0, make([]byte, size)), api.ErrArg)
	}
	must(t, "nil", d.Append(0, nil), api.ErrArg)
	for _, file := range []int{-1, -2, math.MinInt} {
		must(t, "file below 0", d.Append(file, sector(1)), api.ErrArg)
		must(t, "file below 0, no bytes", d.Append(file, nil), api.ErrArg)
	}
	hasFiles(t, d)
	fill(t, d, 0, 1)
	must(t, "no room", d.Append(0, sector(2)), api.ErrFull)
	must(t, "no room, another file", d.Append(1, sector(2)), api.ErrFull)
	for _, size := range sizes {
		must(t, "wrong size, no room", d.Append(0, make([]byte, size)), api.ErrArg)
	}
	must(t, "file below 0, no room", d.Append(-1, sector(1)), api.ErrArg)
	hasFiles(t, d, 0)
	holds(t, d, 0, 1)
	d.Crash([]bool{true})
	must(t, "no power", d.Append(1, sector(1)), api.ErrDown)
	must(t, "no power, file below 0", d.Append(-1, sector(1)), api.ErrDown)
	must(t, "no power, no bytes", d.Append(0, nil), api.ErrDown)
	must(t, "no power, no room", d.Append(0, sector(1)), api.ErrDown)
	hasFiles(t, d, 0)
	d.Up()
	holds(t, d, 0, 1)
}

// P5.2, Append: room counts the sectors of all files together, and comes back with Remove and Rename, but not with Sync or a failure.
func TestRoomOfAllFiles(t *testing.T) {
	d := newDisk(t, 5)
	fill(t, d, 4, 1, 2)
	fill(t, d, 1, 3)
	fill(t, d, 9, 4, 5)
	full := func(what string) {
		t.Helper()
		for _, file := range []int{0, 1, 4, 9} {
			must(t, what, d.Append(file, sector(6)), api.ErrFull)
		}
	}
	full("five sectors")
	must(t, "Sync", d.Sync(4), api.OK)
	full("synced")
	must(t, "Rename", d.Rename(1, 2), api.OK)
	must(t, "Rename", d.Rename(2, 2), api.OK)
	full("renamed")
	d.Crash(nil)
	d.Up()
	full("lost")
	must(t, "Rename", d.Rename(2, 4), api.OK)
	fill(t, d, 0, 7, 8)
	full("filled again")
	must(t, "Remove", d.Remove(9), api.OK)
	fill(t, d, 4, 9, 10)
	full("filled once more")
	holds(t, d, 0, 7, 8)
	holds(t, d, 4, 0, 9, 10)
	hasFiles(t, d, 0, 4)
}

// P5.2, Append: a file has at most 200 sectors; the largest disk has 1000.
func TestFullFiles(t *testing.T) {
	d := newDisk(t, 1000)
	var ids []int
	for id := range 200 {
		ids = append(ids, id+1)
	}
	for file := range 5 {
		fill(t, d, file, ids...)
		must(t, "200 sectors", d.Append(file, sector(1)), api.ErrFull)
		must(t, "200 sectors, wrong size", d.Append(file, nil), api.ErrArg)
	}
	must(t, "1000 sectors", d.Append(5, sector(1)), api.ErrFull)
	for file := range 5 {
		holds(t, d, file, ids...)
	}
	must(t, "Rename", d.Rename(0, 7), api.OK)
	must(t, "Remove", d.Remove(1), api.OK)
	must(t, "renamed, 200 sectors", d.Append(7, sector(1)), api.ErrFull)
	fill(t, d, 0, 9)
	d.Crash(nil)
	d.Up()
	must(t, "lost, 200 sectors", d.Append(7, sector(1)), api.ErrFull)
	fill(t, d, 0, 10)
	holds(t, d, 0, 0, 10)
}

// P5.2: the errors of the calls for a file that has to exist, and which of several is returned (R2).
func TestErrorsOfMissingFiles(t *testing.T) {
	d := newDisk(t, 4)
	fill(t, d, 3, 1, 2)
	calls := func(what string, file int, want api.Errno) {
		t.Helper()
		must(t, what+", Sync", d.Sync(file), want)
		must(t, what+", Remove", d.Remove(file), want)
		must(t, what+", Rename", d.Rename(file, 8), want)
		must(t, what+", Rename to itself", d.Rename(file, file), want)
		must(t, what+", Rename onto one", d.Rename(file, 3), want)
		must(t, what+", Rename to below 0", d.Rename(file, -1), want)
		l, e := d.Read(file)
		must(t, what+", Read", e, want)
		if len(l) != 0 {
			t.Fatalf("%s: Read returned %d sectors with an error", what, len(l))
		}
	}
	missing := []int{0, 2, 4, 1 << 32, 3 + 1<<32, math.MaxInt, -1, -3, math.MinInt}
	for _, file := range missing {
		calls("no file", file, api.ErrNone)
	}
	for _, to := range []int{-1, -3, math.MinInt} {
		must(t, "Rename to below 0", d.Rename(3, to), api.ErrArg)
	}
	hasFiles(t, d, 3)
	holds(t, d, 3, 1, 2)
	must(t, "Sync", d.Sync(3), api.OK)
	d.Crash(nil)
	for _, file := range append(missing, 3) {
		calls("no power", file, api.ErrDown)
	}
	d.Up()
	hasFiles(t, d, 3)
	holds(t, d, 3, 1, 2)
}

// P5.2, Remove: the file is gone, the others stay, and its number may be used anew, without what it had.
func TestRemove(t *testing.T) {
	d := newDisk(t, 6)
	fill(t, d, 0, 1, 2)
	fill(t, d, 1, 3)
	must(t, "Sync", d.Sync(0), api.OK)
	must(t, "Remove", d.Remove(0), api.OK)
	must(t, "Remove again", d.Remove(0), api.ErrNone)
	hasFiles(t, d, 1)
	holds(t, d, 1, 3)
	fill(t, d, 0, 4)
	holds(t, d, 0, 4)
	d.Crash(nil)
	d.Up()
	holds(t, d, 0, 0)
}

// P5.2, Rename: onto a file that exists, whose sectors are gone; which are synced moves along.
func TestRenameOntoAFile(t *testing.T) {
	for _, synced := range []bool{false, true} {
		d := newDisk(t, 8)
		fill(t, d, 5, 1)
		if synced {
			must(t, "Sync", d.Sync(5), api.OK)
		}
		fill(t, d, 5, 2)
		fill(t, d, 2, 3, 4, 5)
		if !synced {
			must(t, "Sync", d.Sync(2), api.OK)
		}
		must(t, "Rename", d.Rename(5, 2), api.OK)
		hasFiles(t, d, 2)
		holds(t, d, 2, 1, 2)
		must(t, "Sync of what was renamed", d.Sync(5), api.ErrNone)
		fill(t, d, 2, 6)
		holds(t, d, 2, 1, 2, 6)
		d.Crash([]bool{false, true})
		d.Up()
		if synced {
			holds(t, d, 2, 1, 0, 6)
		} else {
			holds(t, d, 2, 0, 2, 0)
		}
	}
}

// P5.2, Rename: to a number of no file; the old one may be used anew, and has nothing in common with the new one.
func TestRenameToANewNumber(t *testing.T) {
	d := newDisk(t, 8)
	fill(t, d, 0, 1, 2)
	must(t, "Sync", d.Sync(0), api.OK)
	must(t, "Rename", d.Rename(0, math.MaxInt), api.OK)
	hasFiles(t, d, math.MaxInt)
	fill(t, d, 0, 3)
	fill(t, d, math.MaxInt, 4)
	holds(t, d, 0, 3)
	holds(t, d, math.MaxInt, 1, 2, 4)
	must(t, "Remove", d.Remove(0), api.OK)
	d.Crash(nil)
	d.Up()
	holds(t, d, math.MaxInt, 1, 2, 0)
}

// P5.2, Rename: onto itself nothing changes, neither the sectors nor which are synced; but it is a step.
func TestRenameOntoItself(t *testing.T) {
	d := newDisk(t, 4)
	fill(t, d, 6, 1)
	must(t, "Sync", d.Sync(6), api.OK)
	fill(t, d, 6, 2, 3)
	d.Fail(1, []bool{false, true})
	must(t, "Rename", d.Rename(6, 6), api.OK)
	hasFiles(t, d, 6)
	holds(t, d, 6, 1, 2, 3)
	must(t, "Rename", d.Rename(6, 6), api.ErrDown)
	d.Up()
	hasFiles(t, d, 6)
	holds(t, d, 6, 1, 0, 3)
}

// P5.2, Sync: of this file alone, and of what it has then.
func TestSync(t *testing.T) {
	d := newDisk(t, 8)
	fill(t, d, 0, 1, 2)
	fill(t, d, 1, 3)
	must(t, "Sync", d.Sync(0), api.OK)
	must(t, "Sync again", d.Sync(0), api.OK)
	fill(t, d, 0, 4)
	holds(t, d, 0, 1, 2, 4)
	d.Crash(nil)
	d.Up()
	holds(t, d, 0, 1, 2, 0)
	holds(t, d, 1, 0)
}

// P5.3, Crash: example 1 of the chapter, and lists of every kind for four sectors of three files that are not synced, in the order of the files.
func TestCrashLists(t *testing.T) {
	tests := []struct {
		keep           []bool
		one, five, six []int
	}{
		{nil, []int{0}, []int{1, 0, 0}, []int{0}},
		{[]bool{}, []int{0}, []int{1, 0, 0}, []int{0}},
		{[]bool{false, false, false, false}, []int{0}, []int{1, 0, 0}, []int{0}},
		{[]bool{true}, []int{4}, []int{1, 0, 0}, []int{0}},
		{[]bool{false, true}, []int{0}, []int{1, 3, 0}, []int{0}},
		{[]bool{false, false, true}, []int{0}, []int{1, 0, 5}, []int{0}},
		{[]bool{false, false, false, true}, []int{0}, []int{1, 0, 0}, []int{2}},
		{[]bool{true, true, true}, []int{4}, []int{1, 3, 5}, []int{0}},
		{[]bool{true, false, true, true}, []int{4}, []int{1, 0, 5}, []int{2}},
		{[]bool{true, true, true, true}, []int{4}, []int{1, 3, 5}, []int{2}},
		{[]bool{false, true, false, true, true, true, false, true}, []int{0}, []int{1, 3, 0}, []int{2}},
		{append(make([]bool, 5000), true), []int{0}, []int{1, 0, 0}, []int{0}},
		{slices.Repeat([]bool{true}, 5000), []int{4}, []int{1, 3, 5}, []int{2}},
	}
	for _, x := range tests {
		for _, planned := range []bool{false, true} {
			d := newDisk(t, 8)
			fill(t, d, 5, 1)
			must(t, "Sync", d.Sync(5), api.OK)
			fill(t, d, 6, 2)
			fill(t, d, 5, 3)
			fill(t, d, 1, 4)
			fill(t, d, 5, 5)
			if planned {
				d.Fail(0, x.keep)
				must(t, "the power fails", d.Sync(5), api.ErrDown)
			} else {
				d.Crash(x.keep)
			}
			if d.On() {
				t.Fatal("the power is on")
			}
			d.Up()
			hasFiles(t, d, 1, 5, 6)
			holds(t, d, 1, x.one...)
			holds(t, d, 5, x.five...)
			holds(t, d, 6, x.six...)
		}
	}
}

// P5.3, Crash: files are considered by the numbers that they have then, and those that are gone are not.
func TestCrashAfterRename(t *testing.T) {
	d := newDisk(t, 8)
	fill(t, d, 1, 1)
	fill(t, d, 2, 2)
	fill(t, d, 3, 3)
	must(t, "Rename", d.Rename(1, 9), api.OK)
	must(t, "Remove", d.Remove(2), api.OK)
	d.Crash([]bool{false, true})
	d.Up()
	hasFiles(t, d, 3, 9)
	holds(t, d, 3, 0)
	holds(t, d, 9, 1)
}

// P5.3: behind a failure all sectors are synced: those that remained, and the bytes 0 of those that did not, which are not considered any more.
func TestCrashSyncsAll(t *testing.T) {
	d := newDisk(t, 8)
	fill(t, d, 0, 1, 2, 3)
	d.Crash([]bool{true, false, true})
	d.Up()
	holds(t, d, 0, 1, 0, 3)
	d.Crash(nil)
	d.Up()
	holds(t, d, 0, 1, 0, 3)
	fill(t, d, 0, 4, 5)
	d.Crash([]bool{false, true})
	d.Up()
	holds(t, d, 0, 1, 0, 3, 0, 5)
}

// P5.3, Crash: while the power is off it does nothing, also not to a failure that was planned then.
func TestCrashWithoutPower(t *testing.T) {
	d := newDisk(t, 8)
	fill(t, d, 0, 1, 2)
	d.Crash([]bool{true, true})
	d.Fail(1, []bool{true})
	d.Crash(nil)
	d.Crash([]bool{false, false})
	if d.On() {
		t.Error("the power is on")
	}
	hasFiles(t, d, 0)
	d.Up()
	holds(t, d, 0, 1, 2)
	fill(t, d, 0, 3)
	must(t, "the power fails", d.Append(0, sector(4)), api.ErrDown)
	d.Up()
	holds(t, d, 0, 1, 2, 3)
}

// P5.3, Crash: no failure is planned behind it.
func TestCrashTakesThePlanBack(t *testing.T) {
	d := newDisk(t, 8)
	d.Fail(0, nil)
	d.Crash(nil)
	d.Up()
	fill(t, d, 0, 1, 2, 3)
}

// script is a longer list of calls that are all steps, on a disk with room for 8 sectors. Each is done on the disk and on the slow one.
func script() []func(d *disk.Disk, s *slow) (api.Errno, api.Errno) {
	type errnos = func(d *disk.Disk, s *slow) (api.Errno, api.Errno)
	id := 0
	add := func(file int) errnos {
		id++
		n := id
		return func(d *disk.Disk, s *slow) (api.Errno, api.Errno) {
			return d.Append(file, sector(n)), s.add(file, n, 512)
		}
	}
	sync := func(file int) errnos {
		return func(d *disk.Disk, s *slow) (api.Errno, api.Errno) { return d.Sync(file), s.sync(file) }
	}
	rename := func(from, to int) errnos {
		return func(d *disk.Disk, s *slow) (api.Errno, api.Errno) { return d.Rename(from, to), s.rename(from, to) }
	}
	remove := func(file int) errnos {
		return func(d *disk.Disk, s *slow) (api.Errno, api.Errno) { return d.Remove(file), s.remove(file) }
	}
	return []errnos{
		add(2), sync(2), add(2), add(0), add(2), sync(0), add(0), rename(2, 2), sync(2), add(1),
		sync(1), rename(1, 0), add(0), add(7), remove(2), add(2), add(2), sync(2), add(2), rename(0, 3),
		sync(3), add(3), rename(2, 7), add(7), sync(7), remove(3), add(5), sync(5), remove(5), add(7),
	}
}

// P5.3, Fail: after each number of steps of a longer list; the step that fails returns ErrDown and does nothing else; then no failure is planned any more.
func TestFailAtEachStep(t *testing.T) {
	steps := script()
	for at := range steps {
		for code := range 16 {
			keep := []bool{code&1 != 0, code&2 != 0, code&4 != 0, code&8 != 0}[:code%5]
			d, s := newDisk(t, 8), newSlow(8)
			d.Fail(at, keep)
			s.fail(at, keep)
			for i, step := range steps {
				got, want := step(d, s)
				if i == at && got != api.ErrDown || i < at && got != api.OK || got != want {
					t.Fatalf("a failure after %d steps, step %d: error %d", at, i, got)
				}
				if d.On() != (i < at) {
					t.Fatalf("a failure after %d steps, step %d: power %v", at, i, d.On())
				}
				if i == at {
					d.Up()
					s.on = true
					agree(t, d, s)
					break
				}
			}
			for range 20 {
				d.Append(0, sector(9))
				d.Remove(0)
			}
			if !d.On() {
				t.Fatalf("a failure after %d steps: the power failed again", at)
			}
		}
	}
}

// snapshot is what the files have, by their numbers.
func snapshot(t *testing.T, d *disk.Disk) map[int][][]byte {
	t.Helper()
	m := map[int][][]byte{}
	for _, file := range d.Files() {
		l, e := d.Read(file)
		must(t, "Read", e, api.OK)
		m[file] = l
	}
	return m
}

// P5.4: what is synced remains as it is, wherever the power fails, by a plan or by Crash, whatever the list; and a step that is not done changes nothing: with a list that keeps all, the disk is as it was.
func TestWhatIsSyncedRemains(t *testing.T) {
	steps := script()
	lists := [][]bool{nil, {true}, {false, true}, {true, false, true}, slices.Repeat([]bool{true}, 8)}
	for at := range steps {
		for k, keep := range lists {
			for _, planned := range []bool{false, true} {
				d, s := newDisk(t, 8), newSlow(8)
				for _, step := range steps[:at] {
					step(d, s)
				}
				before := snapshot(t, d)
				row := slices.Clone(s.row)
				if planned {
					d.Fail(0, keep)
					got, _ := steps[at](d, newSlow(8))
					must(t, "the step", got, api.ErrDown)
				} else {
					d.Crash(keep)
				}
				d.Up()
				after := snapshot(t, d)
				if len(after) != len(before) {
					t.Fatalf("at step %d: %d files, not %d", at, len(after), len(before))
				}
				for file, l := range before {
					checkRemains(t, row, file, l, after[file], k == len(lists)-1)
				}
			}
		}
	}
}

// checkRemains holds the sectors of a file behind a failure against those ahead of it.
func checkRemains(t *testing.T, row []piece, file int, before, after [][]byte, all bool) {
	t.Helper()
	row = slices.DeleteFunc(slices.Clone(row), func(p piece) bool { return p.file != file })
	if len(before) != len(row) || len(after) != len(row) {
		t.Fatalf("file %d: %d sectors, then %d, not %d", file, len(before), len(after), len(row))
	}
	for i, p := range row {
		same := bytes.Equal(before[i], after[i])
		if (p.synced || all) && !same || !same && !bytes.Equal(after[i], make([]byte, 512)) {
			t.Fatalf("file %d, sector %d, synced %v: it did not remain", file, i, p.synced)
		}
	}
}

// P5.3, Fail: 0 steps fail at once, for each kind of step, with no other effect.
func TestFailAtEachKindOfStep(t *testing.T) {
	kinds := map[string]func(d *disk.Disk) api.Errno{
		"Append":             func(d *disk.Disk) api.Errno { return d.Append(0, sector(8)) },
		"Append, a new file": func(d *disk.Disk) api.Errno { return d.Append(9, sector(8)) },
		"Sync":               func(d *disk.Disk) api.Errno { return d.Sync(0) },
		"Remove":             func(d *disk.Disk) api.Errno { return d.Remove(0) },
		"Rename":             func(d *disk.Disk) api.Errno { return d.Rename(0, 9) },
		"Rename onto one":    func(d *disk.Disk) api.Errno { return d.Rename(0, 1) },
		"Rename onto itself": func(d *disk.Disk) api.Errno { return d.Rename(0, 0) },
	}
	for name, step := range kinds {
		for _, keep := range []bool{false, true} {
			d := newDisk(t, 8)
			fill(t, d, 1, 1)
			fill(t, d, 0, 2)
			must(t, "Sync", d.Sync(0), api.OK)
			fill(t, d, 0, 3)
			d.Fail(0, []bool{keep, keep})
			if !d.On() {
				t.Fatal("Fail turned the power off")
			}
			must(t, name, step(d), api.ErrDown)
			if d.On() {
				t.Fatalf("%s: the power did not fail", name)
			}
			d.Up()
			hasFiles(t, d, 0, 1)
			if keep {
				holds(t, d, 0, 2, 3)
				holds(t, d, 1, 1)
			} else {
				holds(t, d, 0, 2, 0)
				holds(t, d, 1, 0)
			}
		}
	}
}

// P5.3, Fail: calls that return an error of P5.2, and calls that are none of the four, are no steps.
func TestWhatIsNoStep(t *testing.T) {
	for at := range 4 {
		d := newDisk(t, 4)
		fill(t, d, 0, 1, 2, 3)
		d.Fail(at, nil)
		idle := func() {
			t.Helper()
			must(t, "Append", d.Append(-1, sector(1)), api.ErrArg)
			must(t, "Append", d.Append(0, nil), api.ErrArg)
			must(t, "Sync", d.Sync(7), api.ErrNone)
			must(t, "Remove", d.Remove(7), api.ErrNone)
			must(t, "Rename", d.Rename(7, 0), api.ErrNone)
			must(t, "Rename", d.Rename(0, -1), api.ErrArg)
			_, e := d.Read(7)
			must(t, "Read", e, api.ErrNone)
			_, e = d.Read(0)
			must(t, "Read", e, api.OK)
			d.Files()
			d.On()
			d.Up()
		}
		for range at {
			idle()
			must(t, "Sync", d.Sync(0), api.OK)
		}
		idle()
		must(t, "Sync", d.Sync(0), api.ErrDown)
		if d.On() {
			t.Errorf("after %d steps: the power did not fail", at)
		}
	}
}

// P5.3, Fail: an Append without room is no step, of the disk or of the file.
func TestFullIsNoStep(t *testing.T) {
	d := newDisk(t, 201)
	for id := range 200 {
		fill(t, d, 0, id+1)
	}
	d.Fail(1, nil)
	must(t, "200 sectors", d.Append(0, sector(1)), api.ErrFull)
	fill(t, d, 1, 9)
	must(t, "no room", d.Append(1, sector(1)), api.ErrFull)
	must(t, "200 sectors, no room", d.Append(0, sector(1)), api.ErrFull)
	if !d.On() {
		t.Fatal("the power failed")
	}
	must(t, "the second step", d.Sync(0), api.ErrDown)
}

// P5.3, Fail: planned while the power is off, it counts steps from then on, not calls without power.
func TestFailPlannedWithoutPower(t *testing.T) {
	for at := range 4 {
		d := newDisk(t, 8)
		fill(t, d, 0, 1)
		d.Crash([]bool{true})
		d.Fail(at, []bool{true, false, true})
		for range 5 {
			must(t, "no power", d.Append(0, sector(1)), api.ErrDown)
			must(t, "no power", d.Sync(0), api.ErrDown)
		}
		if d.On() {
			t.Fatal("Fail turned the power on")
		}
		d.Up()
		want := []int{1}
		for i := range at {
			fill(t, d, 0, i+2)
			want = append(want, []int{2, 0, 4}[i])
		}
		must(t, "the power fails", d.Append(0, sector(9)), api.ErrDown)
		d.Up()
		holds(t, d, 0, want...)
		fill(t, d, 0, 8)
	}
}

// P5.3, Fail: planned anew, the later plan counts, with its own list and from its own call on, be it sooner or later.
func TestFailPlannedAnew(t *testing.T) {
	for first := range 5 {
		for second := range 4 {
			d := newDisk(t, 9)
			d.Fail(first+1, []bool{true, true, true, true, true})
			fill(t, d, 0, 1)
			d.Fail(second, []bool{false, true})
			want := []int{0}
			for i := range second {
				fill(t, d, 0, i+2)
				want = append(want, []int{2, 0, 0}[i])
			}
			must(t, "the power fails", d.Append(0, sector(9)), api.ErrDown)
			d.Up()
			holds(t, d, 0, want...)
			for range 10 {
				must(t, "Sync", d.Sync(0), api.OK)
			}
		}
	}
	d := newDisk(t, 9)
	d.Fail(0, []bool{true})
	d.Fail(1, nil)
	fill(t, d, 0, 1)
	must(t, "the power fails", d.Sync(0), api.ErrDown)
	d.Up()
	holds(t, d, 0, 0)
}

// P5.3, Fail: a number below 0 takes the plan back, also while the power is off, and plans nothing.
func TestFailTakenBack(t *testing.T) {
	for _, below := range []int{-1, -2, -1000, math.MinInt, math.MinInt + 1} {
		d := newDisk(t, 300)
		d.Fail(below, []bool{true})
		fill(t, d, 0, 1)
		d.Fail(0, nil)
		d.Fail(below, nil)
		fill(t, d, 0, 2)
		d.Fail(2, nil)
		fill(t, d, 0, 3)
		d.Fail(below, []bool{true, true})
		for range 1100 {
			must(t, "Sync", d.Sync(0), api.OK)
		}
		d.Crash(nil)
		d.Fail(0, nil)
		d.Fail(below, nil)
		if d.On() {
			t.Error("Fail turned the power on")
		}
		d.Up()
		fill(t, d, 0, 4)
		holds(t, d, 0, 1, 2, 3, 4)
		if !d.On() {
			t.Errorf("Fail(%d): the power failed", below)
		}
	}
}

// P5.3, Fail: numbers of steps that are large do not fail early.
func TestFailMuchLater(t *testing.T) {
	for _, steps := range []int{1000, 1 << 32, 1<<32 + 1, math.MaxInt} {
		d := newDisk(t, 1)
		fill(t, d, 0, 1)
		d.Fail(steps, nil)
		for range 1000 {
			must(t, "Sync", d.Sync(0), api.OK)
		}
		want := api.OK
		if steps == 1000 {
			want = api.ErrDown
		}
		must(t, "Sync", d.Sync(0), want)
	}
}

// P5.3, Fail: the list holds for as many sectors as the largest disk has.
func TestFailWithTheLongestList(t *testing.T) {
	n := numbers(2)
	for _, size := range []int{999, 1000, 1001, 3000} {
		keep := n.bools(size)
		d, s := newDisk(t, 1000), newSlow(1000)
		for i := range 1000 {
			must(t, "Append", d.Append(i%5, sector(i+1)), api.OK)
			s.row = append(s.row, piece{file: i % 5, id: i + 1})
		}
		d.Fail(0, keep)
		s.crash(keep)
		must(t, "the power fails", d.Sync(4), api.ErrDown)
		d.Up()
		s.on = true
		agree(t, d, s)
	}
}

// P5.3, Up: while the power is on it changes nothing, also not a plan, nor which sectors are synced; while it is off it turns it on alone.
func TestUp(t *testing.T) {
	d := newDisk(t, 8)
	d.Up()
	if !d.On() {
		t.Fatal("Up turned the power off")
	}
	fill(t, d, 0, 1)
	d.Fail(1, nil)
	d.Up()
	fill(t, d, 0, 2)
	d.Up()
	must(t, "the power fails", d.Append(0, sector(3)), api.ErrDown)
	if d.On() {
		t.Fatal("the power is on behind a failure")
	}
	must(t, "no power", d.Append(0, sector(3)), api.ErrDown)
	d.Up()
	if !d.On() {
		t.Fatal("Up did not turn the power on")
	}
	holds(t, d, 0, 0, 0)
	d.Up()
	fill(t, d, 0, 4)
	holds(t, d, 0, 0, 0, 4)
}

// P5.3: every call of a nil disk, and again behind Up.
func TestNilDisk(t *testing.T) {
	var d *disk.Disk
	for range 2 {
		if d.On() || len(d.Files()) != 0 {
			t.Error("a nil disk has power or files")
		}
		must(t, "Append", d.Append(0, sector(1)), api.ErrDown)
		must(t, "Append, wrong file", d.Append(-1, nil), api.ErrDown)
		must(t, "Sync", d.Sync(0), api.ErrDown)
		must(t, "Rename", d.Rename(0, 1), api.ErrDown)
		must(t, "Rename", d.Rename(-1, -1), api.ErrDown)
		must(t, "Remove", d.Remove(0), api.ErrDown)
		l, e := d.Read(0)
		must(t, "Read", e, api.ErrDown)
		if len(l) != 0 {
			t.Error("a nil disk has sectors")
		}
		d.Fail(0, nil)
		d.Fail(-1, []bool{true})
		d.Fail(3, []bool{true})
		d.Crash(nil)
		d.Crash([]bool{true, false})
		d.Up()
	}
}

// R3: Append neither changes its bytes, also behind their end, nor keeps them.
func TestAppendLeavesItsBytes(t *testing.T) {
	d := newDisk(t, 4)
	wide := slices.Concat(sector(1), sector(2), sector(3))
	before := bytes.Clone(wide)
	must(t, "Append", d.Append(0, wide[512:1024]), api.OK)
	must(t, "Append", d.Append(0, wide[:512]), api.OK)
	must(t, "Append", d.Append(1, wide[512:1024]), api.OK)
	d.Crash([]bool{true, true, false})
	d.Up()
	if !bytes.Equal(wide, before) {
		t.Error("the bytes were changed")
	}
	clear(wide)
	holds(t, d, 0, 2, 1)
	holds(t, d, 1, 0)
}

// R3: neither Fail nor Crash changes its list, also behind its end, and Fail does not keep it.
func TestListsStay(t *testing.T) {
	d := newDisk(t, 4)
	wide := []bool{true, false, true, true, false, true}
	before := slices.Clone(wide)
	fill(t, d, 0, 1, 2, 3)
	d.Fail(0, wide[:3])
	if !slices.Equal(wide, before) {
		t.Error("Fail changed its list")
	}
	clear(wide)
	must(t, "the power fails", d.Sync(0), api.ErrDown)
	if slices.Contains(wide, true) {
		t.Error("a failure changed the list")
	}
	d.Up()
	holds(t, d, 0, 1, 0, 3)
	fill(t, d, 0, 4)
	copy(wide, before)
	d.Crash(wide[:0])
	if !slices.Equal(wide, before) {
		t.Error("Crash changed its list")
	}
	d.Up()
	holds(t, d, 0, 1, 0, 3, 0)
}

// R3: what Read returned does not change with the disk, nor the disk with it; no two of its lists share memory.
func TestReadReturnsNewMemory(t *testing.T) {
	d := newDisk(t, 4)
	fill(t, d, 0, 1, 2)
	read := func() [][]byte {
		t.Helper()
		l, e := d.Read(0)
		must(t, "Read", e, api.OK)
		return l
	}
	first, second := read(), read()
	clear(second[0])
	_ = append(second[0], 9, 9, 9)
	second[1] = nil
	_ = append(second[:1], nil)
	holds(t, d, 0, 1, 2)
	stays := func(what string) {
		t.Helper()
		if len(first) != 2 || !bytes.Equal(first[0], sector(1)) || !bytes.Equal(first[1], sector(2)) {
			t.Fatalf("what Read returned changed by %s", what)
		}
	}
	stays("what another Read returned")
	third := read()
	_ = append(third[0], 9, 9, 9)
	if !bytes.Equal(third[1], sector(2)) {
		t.Fatal("two sectors of one Read share memory")
	}
	fill(t, d, 0, 3)
	stays("Append")
	d.Crash(nil)
	stays("Crash")
	d.Up()
	must(t, "Remove", d.Remove(0), api.OK)
	fill(t, d, 0, 7, 8)
	stays("Remove")
}

// R3: what Files returned is the caller's own.
func TestFilesReturnsNewMemory(t *testing.T) {
	d := newDisk(t, 4)
	fill(t, d, 1, 1)
	fill(t, d, 2, 2)
	l := d.Files()
	m := d.Files()
	l[0] = 9
	fill(t, d, 0, 3)
	if !slices.Equal(m, []int{1, 2}) {
		t.Errorf("what Files returned changed: %v", m)
	}
	hasFiles(t, d, 0, 1, 2)
}

// R4: the same calls have the same results, however often they are done.
func TestSameCallsSameResults(t *testing.T) {
	outcome := func() []byte {
		d := newDisk(t, 40)
		for i := range 30 {
			fill(t, d, i*7%11, i+1)
		}
		d.Crash([]bool{true, false, false, true, true, false, true, false, true, true, false, false, true})
		d.Up()
		var all []byte
		for _, file := range d.Files() {
			l, _ := d.Read(file)
			all = append(all, byte(file))
			all = append(all, bytes.Join(l, nil)...)
		}
		return all
	}
	want := outcome()
	for range 50 {
		if !bytes.Equal(outcome(), want) {
			t.Fatal("the results differ")
		}
	}
}
