package hot_test

import (
	"bytes"
	"fmt"
	"math"
	"slices"
	"strings"
	"testing"

	"cordwood/api"
	"cordwood/disk"
	"cordwood/hot"
	"cordwood/index"
	"cordwood/rec"
)

const every = 50

// piece is a segment, as it is to be: where it begins, and its batches.
type piece struct {
	base int64
	l    []api.Batch
}

func (p piece) end() int64 {
	if len(p.l) == 0 {
		return p.base
	}
	return rec.Next(p.l[len(p.l)-1])
}

// one is a piece that begins with its first batch.
func one(l ...api.Batch) piece { return piece{l[0].Base, l} }

// batch is one of that many records, whose times go up and down.
func batch(base int64, epoch, many int) api.Batch {
	b := api.Batch{Base: base, Epoch: epoch}
	for i := range int64(many) {
		text := fmt.Sprint(base + i)
		b.Records = append(b.Records, api.Record{Time: (base+i)*7%5 - 1, Key: []byte(text), Value: []byte(strings.Repeat(text, int(i%3)))})
	}
	return b
}

// sized is a batch of one record that has so many bytes.
func sized(t *testing.T, base int64, size int) api.Batch {
	t.Helper()
	b := api.Batch{Base: base, Records: make([]api.Record, 1)}
	for rec.Size(b) < size {
		b.Records[0].Value = append(b.Records[0].Value, 'x')
	}
	if rec.Size(b) != size {
		t.Fatal("no batch has that size", size)
	}
	return b
}

// join is the batches' bytes.
func join(t *testing.T, l ...api.Batch) []byte {
	t.Helper()
	var all []byte
	for _, b := range l {
		raw, err := rec.Bytes(b)
		if err != nil {
			t.Fatal(err)
		}
		all = append(all, raw...)
	}
	return all
}

func file(base int64) string { return fmt.Sprintf("log-%013d", base) }

func newDisk(t *testing.T) *disk.Disk {
	t.Helper()
	d, err := disk.New(api.MaxDisk)
	if err != nil {
		t.Fatal(err)
	}
	return d
}

// lays lays a file on the disk, its bytes and its name synced.
func lays(t *testing.T, d *disk.Disk, name string, b []byte) {
	t.Helper()
	good(t, d.Create(name), d.Append(name, b), d.Sync(name), d.SyncDir())
}

func good(t *testing.T, l ...error) {
	t.Helper()
	for i, err := range l {
		if err != nil {
			t.Fatal(i, err)
		}
	}
}

func opened(t *testing.T, d *disk.Disk, size int) *hot.Log {
	t.Helper()
	l, err := hot.Open(d, hot.Config{Seg: size, Every: every})
	if err != nil {
		t.Fatal(err)
	}
	return l
}

// made is a log, from base on, of a disk that had none, with these batches.
func made(t *testing.T, size int, base int64, l ...api.Batch) (*disk.Disk, *hot.Log) {
	t.Helper()
	d := newDisk(t)
	h := opened(t, d, size)
	good(t, h.Begin(base))
	appends(t, h, l...)
	return d, h
}

func appends(t *testing.T, h *hot.Log, l ...api.Batch) {
	t.Helper()
	for _, b := range l {
		if err := h.Append(b); err != nil {
			t.Fatalf("%d: %v", b.Base, err)
		}
	}
}

// three is a log whose segments have two batches each, the last one of them one: from 10 to 16, 17, 18, 20, 24 and 25, all but the last one synced.
func three(t *testing.T) (*disk.Disk, *hot.Log, []piece) {
	t.Helper()
	l := []api.Batch{batch(10, 1, 6), batch(16, 1, 1), batch(17, 2, 1), batch(18, 4, 2), batch(20, 4, 4), batch(24, 5, 1)}
	d := newDisk(t)
	h := opened(t, d, 1<<20)
	good(t, h.Begin(10))
	appends(t, h, l[:2]...)
	h = rolled(t, d, h, l[2])
	appends(t, h, l[3])
	h = rolled(t, d, h, l[4])
	good(t, h.Flush())
	appends(t, h, l[5])
	return d, h, []piece{one(l[:2]...), one(l[2:4]...), one(l[4:]...)}
}

// rolled is the log, opened anew with b in a segment of its own.
func rolled(t *testing.T, d *disk.Disk, h *hot.Log, b api.Batch) *hot.Log {
	t.Helper()
	good(t, h.Flush())
	appends(t, opened(t, d, 1), b)
	return opened(t, d, 1<<20)
}

// marks is the bytes of an index of these batches.
func marks(t *testing.T, l []api.Batch) []byte {
	t.Helper()
	x, err := index.New(every)
	if err != nil {
		t.Fatal(err)
	}
	pos := 0
	for _, b := range l {
		good(t, x.Add(b.Base, rec.Time(b), pos, rec.Size(b)))
		pos += rec.Size(b)
	}
	return x.Bytes()
}

// holds holds all that a log tells against its segments, the last one synced to there.
func holds(t *testing.T, what string, h *hot.Log, synced int64, pieces ...piece) {
	t.Helper()
	var start, end int64
	var segs [][3]int64
	var pairs []api.Pair
	for i, p := range pieces {
		if i == 0 {
			start = p.base
		}
		end = p.end()
		segs = append(segs, [3]int64{p.base, end, int64(len(join(t, p.l...)))})
		for _, b := range p.l {
			if len(pairs) == 0 || pairs[len(pairs)-1].Epoch != b.Epoch {
				pairs = append(pairs, api.Pair{Epoch: b.Epoch, Start: b.Base})
			}
		}
		holdsPiece(t, what, h, p)
	}
	if h.Start() != start || h.End() != end || h.Synced() != synced {
		t.Errorf("%s: from %d to %d, synced to %d; not %d, %d, %d", what, h.Start(), h.End(), h.Synced(), start, end, synced)
	}
	if got := h.Segs(); !slices.Equal(got, segs) {
		t.Errorf("%s: segments %v, not %v", what, got, segs)
	}
	if got := h.Pairs(); !slices.Equal(got, pairs) {
		t.Errorf("%s: pairs %v, not %v", what, got, pairs)
	}
}

// holdsPiece holds what a log tells of a segment against that.
func holdsPiece(t *testing.T, what string, h *hot.Log, p piece) {
	t.Helper()
	if raw, err := h.Raw(p.base); err != nil || !bytes.Equal(raw, join(t, p.l...)) {
		t.Errorf("%s: other bytes from %d on, %v", what, p.base, err)
	}
	if got, err := h.Marks(p.base); err != nil || !bytes.Equal(got, marks(t, p.l)) {
		t.Errorf("%s: other marks from %d on, %v", what, p.base, err)
	}
	time := int64(0)
	for i, b := range p.l {
		if i == 0 || rec.Time(b) > time {
			time = rec.Time(b)
		}
	}
	if got, err := h.Time(p.base); err != nil || got != time {
		t.Errorf("%s: time %d from %d on, not %d, %v", what, got, p.base, time, err)
	}
	if got, err := h.Read(p.base, math.MaxInt); len(p.l) > 0 && (err != nil || !slices.EqualFunc(got, p.l, rec.Same)) {
		t.Errorf("%s: other batches from %d on, %v", what, p.base, err)
	}
}

// files holds the disk's names against those of the segments, and others.
func files(t *testing.T, what string, d *disk.Disk, pieces []piece, others ...string) {
	t.Helper()
	want := slices.Clone(others)
	for _, p := range pieces {
		want = append(want, file(p.base))
	}
	slices.Sort(want)
	if got := d.List(); !slices.Equal(got, want) {
		t.Errorf("%s: %v, not %v", what, got, want)
	}
}

// look is all that a disk tells.
func look(d *disk.Disk) string {
	s := fmt.Sprint(d.Down(), d.Calls(), d.Used())
	for _, name := range d.List() {
		n, _ := d.Len(name)
		b, _ := d.Read(name, 0, n)
		synced, _ := d.Synced(name)
		s += fmt.Sprintf(" %s %x %d", name, b, synced)
	}
	return s
}

// tell is all that a log tells without the disk, but for what is synced.
func tell(h *hot.Log) string {
	s := fmt.Sprint(h.Start(), h.End(), h.Segs(), h.Pairs())
	for _, x := range h.Segs() {
		marks, err := h.Marks(x[0])
		time, timeErr := h.Time(x[0])
		s += fmt.Sprintf(" %x %v %d %v", marks, err, time, timeErr)
	}
	return s
}

// refused holds the error of a call against the one that is to be, and all that the log and its disk tell against what they told ahead.
func refused(t *testing.T, what string, d *disk.Disk, h *hot.Log, want error, call func() error) {
	t.Helper()
	was := look(d) + tell(h) + fmt.Sprint(h.Synced())
	if err := call(); err != want {
		t.Errorf("%s: %v, not %v", what, err, want)
	}
	if look(d)+tell(h)+fmt.Sprint(h.Synced()) != was {
		t.Errorf("%s: it has changed something", what)
	}
}

// P10.1

func TestOpenOfWrongNumbers(t *testing.T) {
	for _, x := range []struct {
		seg, every int
		want       error
	}{
		{0, every, api.ErrRange},
		{1, every, nil},
		{1 << 20, every, nil},
		{1<<20 + 1, every, api.ErrRange},
		{-1, every, api.ErrRange},
		{math.MinInt, every, api.ErrRange},
		{math.MaxInt, every, api.ErrRange},
		{100, 0, api.ErrRange},
		{100, 1, nil},
		{100, 1 << 20, nil},
		{100, 1<<20 + 1, api.ErrRange},
		{100, -1, api.ErrRange},
		{100, math.MinInt, api.ErrRange},
		{100, math.MaxInt, api.ErrRange},
		{0, 0, api.ErrRange},
	} {
		d, _ := made(t, 1, 7, batch(7, 1, 1), batch(8, 1, 1))
		for _, c := range []*disk.Disk{newDisk(t), d} {
			was := look(c)
			h, err := hot.Open(c, hot.Config{Seg: x.seg, Every: x.every})
			if err != x.want || (h == nil) != (err != nil) || err != nil && look(c) != was {
				t.Error(x, err)
			}
		}
	}
}

// Of a disk whose power is gone the numbers are still refused first.
func TestOpenWithoutPower(t *testing.T) {
	d, _ := made(t, 1, 7, batch(7, 1, 1))
	d.Arm(1)
	for _, x := range []struct {
		seg  int
		want error
	}{{1, api.ErrCrash}, {0, api.ErrRange}, {1, api.ErrCrash}} {
		if h, err := hot.Open(d, hot.Config{Seg: x.seg, Every: every}); h != nil || err != x.want {
			t.Error(x, err)
		}
	}
}

func TestOpenOfNone(t *testing.T) {
	d := newDisk(t)
	h := opened(t, d, 100)
	holds(t, "no files", h, 0)
	others := []string{"log", "log-", "log-7", "log-0000000000007.new", "log-000000000007", "log-00000000000007", "log-1099511627777", "meta", "seg-0000000001-data-0000000000007", "start", "xlog-0000000000007"}
	for _, name := range others {
		lays(t, d, name, join(t, batch(7, 1, 2)))
	}
	was := look(d)
	h = opened(t, d, 100)
	holds(t, "no segments", h, 0)
	if look(d) != was {
		t.Error("the disk is another one")
	}
	good(t, h.Begin(5))
	appends(t, h, batch(5, 1, 2))
	holds(t, "begun beside others", h, 5, one(batch(5, 1, 2)))
	good(t, h.Flush())
	h = opened(t, d, 100)
	holds(t, "opened beside others", h, 7, one(batch(5, 1, 2)))
	files(t, "beside others", d, []piece{{base: 5}}, others...)
}

func TestBegin(t *testing.T) {
	for _, base := range []int64{0, 1, 7, api.MaxOffset - 1, api.MaxOffset} {
		d, h := made(t, 100, base)
		holds(t, "begun", h, base, piece{base: base})
		for _, again := range []int64{base, base + 1, 0, -1, math.MaxInt64} {
			refused(t, "begun twice", d, h, api.ErrState, func() error { return h.Begin(again) })
		}
		d.Crash()
		holds(t, "behind a crash", opened(t, d, 100), base, piece{base: base})
	}
	for _, base := range []int64{-1, api.MaxOffset + 1, math.MinInt64, math.MaxInt64} {
		d := newDisk(t)
		h := opened(t, d, 100)
		refused(t, fmt.Sprint(base), d, h, api.ErrRange, func() error { return h.Begin(base) })
		good(t, h.Begin(3))
		holds(t, "begun then", h, 3, piece{base: 3})
	}
}

func TestBeginOfOneThatIsThere(t *testing.T) {
	d := newDisk(t)
	h := opened(t, d, 100)
	lays(t, d, file(7), nil)
	refused(t, "a file of that name", d, h, api.ErrThere, func() error { return h.Begin(7) })
	good(t, h.Begin(8))
}

// Segments that were there are opened; the last one may be empty, the first one may begin anywhere.
func TestOpen(t *testing.T) {
	a, b, c := one(batch(10, 1, 3), batch(13, 1, 1)), one(batch(14, 1, 2)), one(batch(16, 3, 1), batch(17, 3, 1), batch(18, 4, 1))
	for i, pieces := range [][]piece{
		{{base: 0}}, {{base: 7}}, {{base: api.MaxOffset}}, {a}, {a, b}, {a, b, c}, {b, c}, {a, b, c, {base: 19}}, {a, {base: 14}},
		{one(batch(0, 0, 64))},
		{one(batch(api.MaxOffset-2, api.MaxEpoch, 1)), one(batch(api.MaxOffset-1, api.MaxEpoch, 1)), {base: api.MaxOffset}},
	} {
		d := newDisk(t)
		for _, p := range slices.Backward(pieces) {
			lays(t, d, file(p.base), join(t, p.l...))
		}
		h := opened(t, d, 1)
		holds(t, fmt.Sprint(i), h, pieces[len(pieces)-1].end(), pieces...)
		files(t, fmt.Sprint(i), d, pieces)
		h = opened(t, d, 1<<20)
		holds(t, fmt.Sprint(i, " twice"), h, pieces[len(pieces)-1].end(), pieces...)
	}
}

// What was not synced of the last segment is synced by Open, but not the names, as none is removed.
func TestOpenSyncs(t *testing.T) {
	d, h := made(t, 100, 7, batch(7, 1, 1))
	if h.Synced() != 7 {
		t.Error(h.Synced())
	}
	good(t, d.Create("else"))
	holds(t, "opened", opened(t, d, 100), 8, one(batch(7, 1, 1)))
	d.Crash()
	holds(t, "behind a crash", opened(t, d, 100), 8, one(batch(7, 1, 1)))
	files(t, "behind a crash", d, []piece{{base: 7}})
}

// misfits is disks whose segments do not all follow one another, and how many of them do.
func misfits() []struct {
	what string
	l    []piece
	good int
} {
	a, b, c := one(batch(10, 2, 3), batch(13, 3, 1)), one(batch(14, 3, 2)), one(batch(16, 5, 1))
	return []struct {
		what string
		l    []piece
		good int
	}{
		{"a gap", []piece{a, c}, 1},
		{"a gap of one", []piece{a, one(batch(15, 3, 1)), c}, 1},
		{"a gap, and two behind", []piece{a, one(batch(15, 3, 1)), c, one(batch(17, 5, 1))}, 1},
		{"a gap further on", []piece{a, b, one(batch(17, 5, 1)), one(batch(18, 5, 1))}, 2},
		{"a gap ahead of an empty one", []piece{a, b, {base: 17}}, 2},
		{"one that overlaps", []piece{a, one(batch(13, 3, 1)), b, c}, 1},
		{"one that lies within", []piece{a, one(batch(11, 3, 1)), b, c}, 1},
		{"two that overlap", []piece{a, one(batch(11, 3, 1)), one(batch(12, 3, 2)), b, c}, 1},
		{"an empty one that overlaps", []piece{a, {base: 12}, b}, 1},
		{"one behind an empty one", []piece{{base: 10}, b, c}, 1},
		{"one behind an empty one further on", []piece{a, {base: 14}, c, one(batch(17, 5, 1))}, 2},
		{"an epoch that falls", []piece{a, one(batch(14, 2, 2)), c}, 1},
		{"an epoch that falls to 0", []piece{a, one(batch(14, 0, 2)), c}, 1},
		{"an epoch that falls further on", []piece{a, b, one(batch(16, 2, 1)), one(batch(17, 5, 1))}, 2},
		{"an epoch that falls, and rises in it", []piece{a, one(batch(14, 2, 1), batch(15, 3, 1)), c}, 1},
	}
}

func TestOpenOfMisfits(t *testing.T) {
	for _, x := range misfits() {
		d := newDisk(t)
		for _, p := range x.l {
			lays(t, d, file(p.base), join(t, p.l...))
		}
		lays(t, d, "log-0000000000014.new", []byte("kept"))
		good(t, d.Create("else"))
		left := x.l[:x.good]
		end := left[x.good-1].end()
		holds(t, x.what, opened(t, d, 100), end, left...)
		files(t, x.what, d, left, "else", "log-0000000000014.new")
		// What was removed stays so, as the names are synced.
		d.Crash()
		files(t, x.what+", behind a crash", d, left, "else", "log-0000000000014.new")
		good(t, d.Create("another"))
		h := opened(t, d, 100)
		holds(t, x.what+", once more", h, end, left...)
		appends(t, h, batch(end, api.MaxEpoch, 1))
		d.Crash()
		// And this time none was.
		files(t, x.what+", opened once more", d, left, "else", "log-0000000000014.new")
	}
}

// A segment that has lost bytes ends earlier: the one behind it does not begin there any more.
func TestOpenOfTorn(t *testing.T) {
	a, b, c := one(batch(10, 2, 3), batch(13, 3, 1)), one(batch(14, 3, 2)), one(batch(16, 5, 1))
	all := []piece{a, b, c}
	for i, p := range all {
		raw := join(t, p.l...)
		for n := range len(raw) {
			d := newDisk(t)
			for k, p := range all {
				lays(t, d, file(p.base), join(t, p.l...)[:map[bool]int{true: n, false: len(join(t, p.l...))}[k == i]])
			}
			left := slices.Clone(all[:i+1])
			left[i].l = nil
			for many := range p.l {
				if len(join(t, p.l[:many+1]...)) <= n {
					left[i].l = p.l[:many+1]
				}
			}
			what := fmt.Sprint(n, " bytes of segment ", i)
			holds(t, what, opened(t, d, 100), left[i].end(), left...)
			files(t, what, d, left)
			d.Crash()
			holds(t, what+", once more", opened(t, d, 100), left[i].end(), left...)
		}
	}
	// Bytes behind the last batch are cut off, and the next one begins where the batches end.
	d := newDisk(t)
	for _, p := range all {
		lays(t, d, file(p.base), append(join(t, p.l...), 1, 2, 3))
	}
	holds(t, "bytes behind", opened(t, d, 100), 17, all...)
}
