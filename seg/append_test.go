package seg_test

import (
	"bytes"
	"fmt"
	"slices"
	"testing"

	"cordwood/api"
	"cordwood/disk"
	"cordwood/index"
	"cordwood/rec"
	"cordwood/seg"
)

// P7.2

// refuses holds what the segment and its disk tell against what they told ahead.
func refuses(t *testing.T, what string, d *disk.Disk, s *seg.Seg, call func() error, want error) {
	t.Helper()
	wasDisk, was := look(d), tells(s)
	if err := call(); err != want {
		t.Errorf("%s: %v, not %v", what, err, want)
	}
	if look(d) != wasDisk || tells(s) != was {
		t.Errorf("%s: refused, and it is another one", what)
	}
}

// tells is all that a segment tells whether there is power or not.
func tells(s *seg.Seg) string {
	return fmt.Sprint(s.Base(), s.End(), s.Synced(), s.Size(), s.Time(), s.Index().Bytes())
}

func TestAppend(t *testing.T) {
	d := newDisk(t)
	var l []api.Batch
	s := made(t, d, 10)
	for _, b := range []api.Batch{batch(10, 0, 3), batch(13, 0, 1), batch(14, 7, api.MaxRecords), batch(78, 7, 2), batch(80, api.MaxEpoch, 1), batch(81, api.MaxEpoch, 1)} {
		calls := d.Calls()
		appends(t, s, b)
		l = append(l, b)
		holds(t, fmt.Sprint(b.Base), s, 10, 0, l...)
		if d.Calls() != calls+1 || !bytes.Equal(bytesOf(t, d, 10), join(t, l...)) {
			t.Error(d.Calls() - calls)
		}
	}
}

func TestAppendAtTheEdges(t *testing.T) {
	s := made(t, newDisk(t), 0, batch(0, 0, 1))
	holds(t, "from 0 on", s, 0, 0, batch(0, 0, 1))
	d := newDisk(t)
	s = made(t, d, api.MaxOffset-2, batch(api.MaxOffset-2, 0, 1), batch(api.MaxOffset-1, 0, 1))
	refuses(t, "at MaxOffset", d, s, func() error { return s.Append(batch(api.MaxOffset, 0, 1)) }, api.ErrRange)
	if s.End() != api.MaxOffset {
		t.Error(s.End())
	}
	d = newDisk(t)
	s = made(t, d, api.MaxOffset-2)
	refuses(t, "one too many", d, s, func() error { return s.Append(batch(api.MaxOffset-2, 0, 3)) }, api.ErrRange)
}

func TestAppendOfWrong(t *testing.T) {
	d := newDisk(t)
	s := made(t, d, 10)
	long := api.Record{Key: make([]byte, api.MaxKey+1)}
	none := api.Batch{Base: 10}
	for _, x := range []struct {
		what string
		b    api.Batch
		want error
	}{
		{"below", batch(9, 0, 1), api.ErrShape},
		{"above", batch(11, 0, 1), api.ErrShape},
		{"at 0", batch(0, 0, 10), api.ErrShape},
		{"no record", none, api.ErrMany},
		{"nothing", api.Batch{}, api.ErrMany},
		{"a long key", api.Batch{Base: 10, Records: []api.Record{long}}, api.ErrRange},
		{"an epoch below 0", batch(10, -1, 1), api.ErrRange},
		{"an epoch too high", batch(10, api.MaxEpoch+1, 1), api.ErrRange},
	} {
		refuses(t, x.what, d, s, func() error { return s.Append(x.b) }, x.want)
	}
	appends(t, s, batch(10, 0, 3), batch(13, 4, 1))
	syncs(t, s)
	appends(t, s, batch(14, 4, 2))
	for _, x := range []struct {
		what string
		b    api.Batch
		want error
	}{
		{"one below", batch(15, 4, 1), api.ErrShape},
		{"one above", batch(17, 4, 1), api.ErrShape},
		{"the last one once more", batch(14, 4, 2), api.ErrShape},
		{"the first one once more", batch(10, 0, 3), api.ErrShape},
		{"an epoch one below", batch(16, 3, 1), api.ErrShape},
		{"an epoch of 0", batch(16, 0, 1), api.ErrShape},
		{"no record", api.Batch{Base: 16, Epoch: 4}, api.ErrMany},
		{"no record, at another place", api.Batch{Base: 3, Epoch: 4}, api.ErrMany},
		{"too many", api.Batch{Base: 16, Epoch: 4, Records: make([]api.Record, api.MaxRecords+1)}, api.ErrMany},
		{"a time, at another place", api.Batch{Base: 3, Epoch: 4, Records: []api.Record{{Time: api.MaxTime + 1}}}, api.ErrRange},
		{"a Base below 0", batch(-1, 4, 1), api.ErrRange},
		{"an epoch below 0", batch(16, -1, 1), api.ErrRange},
	} {
		refuses(t, x.what, d, s, func() error { return s.Append(x.b) }, x.want)
	}
	appends(t, s, batch(16, 4, 1), batch(17, 5, 1))
	holds(t, "and on", s, 10, 2, batch(10, 0, 3), batch(13, 4, 1), batch(14, 4, 2), batch(16, 4, 1), batch(17, 5, 1))
}

func TestAppendKeepsNothing(t *testing.T) {
	s := made(t, newDisk(t), 10)
	b := batch(10, 1, 4)
	b.Records = append(make([]api.Record, 0, 10), b.Records...)
	spare := b.Records[:10]
	spare[7].Time = 99
	appends(t, s, b)
	if !rec.Same(b, batch(10, 1, 4)) || spare[7].Time != 99 {
		t.Error("changed")
	}
	clear(b.Records[1].Key)
	b.Records[0] = api.Record{Time: 1000}
	holds(t, "kept", s, 10, 0, batch(10, 1, 4))
}

func TestFull(t *testing.T) {
	a, b := batch(10, 1, 4), batch(14, 1, 2)
	room := len(join(t, a, b))
	for _, x := range []struct {
		room int
		want error
	}{{room, nil}, {room - 1, api.ErrFull}} {
		d, _ := disk.New(x.room)
		s := made(t, d, 10, a)
		if x.want == nil {
			appends(t, s, b)
			refuses(t, "one more", d, s, func() error { return s.Append(batch(16, 1, 1)) }, api.ErrFull)
			holds(t, "all room", s, 10, 0, a, b)
			continue
		}
		refuses(t, "one byte less", d, s, func() error { return s.Append(b) }, x.want)
		refuses(t, "at another place", d, s, func() error { return s.Append(batch(15, 1, 2)) }, api.ErrShape)
		holds(t, "one byte less", s, 10, 0, a)
		syncs(t, s)
		// What was refused has left no trace: there is room for it, once there is.
		cuts(t, s, 10)
		appends(t, s, batch(10, 0, 1))
		holds(t, "another one", s, 10, 0, batch(10, 0, 1))
	}
}

func TestSync(t *testing.T) {
	d := newDisk(t)
	a, b := batch(10, 1, 4), batch(14, 1, 2)
	s := made(t, d, 10)
	calls := d.Calls()
	syncs(t, s)
	holds(t, "no record", s, 10, 0)
	appends(t, s, a)
	holds(t, "behind an Append", s, 10, 0, a)
	syncs(t, s)
	holds(t, "behind a Sync", s, 10, 1, a)
	appends(t, s, b)
	holds(t, "behind another one", s, 10, 1, a, b)
	if d.Calls() != calls+4 {
		t.Error(d.Calls() - calls)
	}
	c := d.Clone()
	c.Crash()
	holds(t, "behind a crash", opened(t, c, 10), 10, 1, a)
	syncs(t, s)
	syncs(t, s)
	d.Crash()
	holds(t, "all synced, behind a crash", opened(t, d, 10), 10, 2, a, b)
}

// A segment that lives on behind a crash tells what of it is synced, as far as batches are whole.
func TestSyncedOfWholeBatches(t *testing.T) {
	a, b, c := batch(10, 1, 4), batch(14, 1, 2), batch(16, 1, 1)
	sizeA, sizeB, sizeC := len(join(t, a)), len(join(t, b)), len(join(t, c))
	for more, want := range map[int]int64{0: 14, 1: 14, sizeB - 1: 14, sizeB: 16, sizeB + 1: 16, sizeB + sizeC - 1: 16, sizeB + sizeC: 17} {
		d := newDisk(t)
		s := made(t, d, 10, a)
		syncs(t, s)
		appends(t, s, b, c)
		d.Crash(0, more)
		if n, _ := d.Synced(file(10)); n != sizeA+more || s.Synced() != want || s.End() != 17 {
			t.Errorf("%d bytes more: %d synced, to %d, not %d", more, n, s.Synced(), want)
		}
	}
}

func TestTime(t *testing.T) {
	s := made(t, newDisk(t), 10)
	if s.Time() != 0 {
		t.Error("no record:", s.Time())
	}
	for _, x := range []struct {
		times []int64
		want  int64
	}{
		{[]int64{-api.MaxTime}, -api.MaxTime},
		{[]int64{-50, -30, -40}, -30},
		{[]int64{-31}, -30},
		{[]int64{-29, -100}, -29},
		{[]int64{0}, 0},
		{[]int64{-1}, 0},
		{[]int64{5, 7, 6}, 7},
		{[]int64{6}, 7},
		{[]int64{api.MaxTime, 3}, api.MaxTime},
	} {
		appends(t, s, timed(s.End(), x.times...))
		if s.Time() != x.want {
			t.Errorf("%v: %d, not %d", x.times, s.Time(), x.want)
		}
	}
	cuts(t, s, s.Base()+1)
	if s.Time() != -api.MaxTime {
		t.Error("cut:", s.Time())
	}
	cuts(t, s, s.Base())
	if s.Time() != 0 {
		t.Error("all cut:", s.Time())
	}
	appends(t, s, timed(10, -3))
	if s.Time() != -3 {
		t.Error("one anew:", s.Time())
	}
}

func TestIndex(t *testing.T) {
	for _, every := range []int{1, 30, 31, 60, 61, 100, 1 << 20} {
		d := newDisk(t)
		s, err := seg.Create(d, 3, every)
		if err != nil {
			t.Fatal(err)
		}
		var l []api.Batch
		for i := range 12 {
			b := timed(s.End(), int64(i*7%5-2))
			if i%4 == 3 {
				b = timed(s.End(), int64(-i), 3, int64(i))
			}
			appends(t, s, b)
			l = append(l, b)
			if got, want := s.Index().Marks(), marks(t, every, l); !slices.Equal(got, want) {
				t.Errorf("every %d: %v, not %v", every, got, want)
			}
		}
		anew, _, err := seg.Open(d, 3, every)
		if err != nil || !bytes.Equal(anew.Index().Bytes(), s.Index().Bytes()) {
			t.Errorf("every %d: another index when opened, %v", every, err)
		}
	}
}

func TestIndexIsACopy(t *testing.T) {
	s := made(t, newDisk(t), 10, batch(10, 1, 5), batch(15, 1, 5), batch(20, 1, 5))
	x, y := s.Index(), s.Index()
	was := x.Bytes()
	// It goes on where the batches end.
	if x.Add(s.End()-6, 0, s.Size(), 1) != api.ErrRange || x.Add(s.End(), 0, s.Size(), 1) != nil {
		t.Error("not all batches were added")
	}
	x.Cut(0)
	if len(x.Marks()) != 0 || !bytes.Equal(y.Bytes(), was) {
		t.Error("two indexes share something")
	}
	holds(t, "behind", s, 10, 0, batch(10, 1, 5), batch(15, 1, 5), batch(20, 1, 5))
}

// The index behind a Cut is one with the batches that are left, those without a mark, too.
func TestIndexBehindCut(t *testing.T) {
	s := made(t, newDisk(t), 10, timed(10, 1), timed(11, 9), timed(12, 2))
	cuts(t, s, 12)
	appends(t, s, timed(12, 3))
	holds(t, "behind", s, 10, 2, timed(10, 1), timed(11, 9), timed(12, 3))
	if m := s.Index().Marks(); len(m) != 2 || m[1] != (index.Mark{Offset: 12, Time: 9, Pos: 52}) {
		t.Error(m)
	}
}

func TestRawIsACopy(t *testing.T) {
	l := []api.Batch{batch(10, 1, 5), batch(15, 1, 5)}
	s := made(t, newDisk(t), 10, l...)
	first, _ := s.Raw()
	second, _ := s.Raw()
	first = first[:cap(first)]
	for i := range first {
		first[i] = '!'
	}
	if !bytes.Equal(second, join(t, l...)) {
		t.Error("two answers share something")
	}
	holds(t, "behind", s, 10, 0, l...)
}

func TestRemove(t *testing.T) {
	d := newDisk(t)
	s := made(t, d, 10, batch(10, 1, 5))
	calls := d.Calls()
	if err := s.Remove(); err != nil || d.Calls() != calls+1 || len(d.List()) != 0 || d.Used() != 0 {
		t.Error(err, d.List())
	}
	if s, n, err := seg.Open(d, 10, every); s != nil || n != 0 || err != api.ErrNone {
		t.Error(err)
	}
	holds(t, "another one", made(t, d, 10), 10, 0)
}

func TestWithoutPower(t *testing.T) {
	a, b := batch(10, 1, 5), batch(15, 1, 5)
	d := newDisk(t)
	s := made(t, d, 10, a)
	syncs(t, s)
	appends(t, s, b)
	was := tells(s)
	d.Arm(1)
	for what, call := range map[string]func() error{
		"Append":         func() error { return s.Append(batch(20, 1, 5)) },
		"Sync":           s.Sync,
		"Cut":            func() error { return s.Cut(10) },
		"Cut of nothing": func() error { return s.Cut(20) },
		"Remove":         s.Remove,
	} {
		// The first of these takes the power away.
		if err := call(); err != api.ErrCrash || tells(s) != was {
			t.Errorf("%s: %v", what, err)
		}
	}
	if raw, err := s.Raw(); len(raw) != 0 || err != api.ErrCrash {
		t.Error(err)
	}
	for _, offset := range []int64{10, 12, 15, 19} {
		if l, err := s.Read(offset, 0); len(l) != 0 || err != api.ErrCrash {
			t.Error(offset, err)
		}
	}
	for what, call := range map[string]func() error{
		"no record":     func() error { return s.Append(api.Batch{Base: 20}) },
		"another place": func() error { return s.Append(batch(21, 1, 1)) },
		"an epoch":      func() error { return s.Append(batch(20, 0, 1)) },
	} {
		if err := call(); err != api.ErrMany && err != api.ErrShape {
			t.Errorf("%s: %v", what, err)
		}
	}
	for _, offset := range []int64{9, 20} {
		if l, err := s.Read(offset, 0); len(l) != 0 || err != api.ErrOutside {
			t.Error(offset, err)
		}
	}
	for _, offset := range []int64{9, 11, 14, 16, 21} {
		if err := s.Cut(offset); err != api.ErrOutside {
			t.Error(offset, err)
		}
	}
	if s.Synced() != 15 || s.End() != 20 || tells(s) != was {
		t.Error(s.Synced(), s.End())
	}
	d.Crash(0, -1)
	holds(t, "behind the crash", opened(t, d, 10), 10, 2, a, b)
}
