package seg_test

import (
	"bytes"
	"fmt"
	"math"
	"slices"
	"strings"
	"testing"

	"cordwood/api"
	"cordwood/disk"
	"cordwood/index"
	"cordwood/rec"
	"cordwood/seg"
)

const every = 50

// batch is one of that many records, whose times go up and down.
func batch(base int64, epoch, many int) api.Batch {
	b := api.Batch{Base: base, Epoch: epoch}
	for i := range int64(many) {
		text := fmt.Sprint(base + i)
		b.Records = append(b.Records, api.Record{Time: (base + i) * 7 % 5, Key: []byte(text), Value: []byte(strings.Repeat(text, int(i%3)))})
	}
	return b
}

// timed is a batch with a record of each time.
func timed(base int64, times ...int64) api.Batch {
	b := api.Batch{Base: base}
	for _, time := range times {
		b.Records = append(b.Records, api.Record{Time: time})
	}
	return b
}

// join is the batches' bytes.
func join(t *testing.T, l ...api.Batch) []byte {
	t.Helper()
	var all []byte
	for _, b := range l {
		raw, err := rec.Bytes(b)
		if err != nil {
			t.Fatal(err)
		}
		all = append(all, raw...)
	}
	return all
}

func file(base int64) string { return fmt.Sprintf("log-%013d", base) }

func newDisk(t *testing.T) *disk.Disk {
	t.Helper()
	d, err := disk.New(api.MaxDisk)
	if err != nil {
		t.Fatal(err)
	}
	return d
}

// made is a segment with these batches, not synced.
func made(t *testing.T, d *disk.Disk, base int64, l ...api.Batch) *seg.Seg {
	t.Helper()
	s, err := seg.Create(d, base, every)
	if err != nil {
		t.Fatal(err)
	}
	appends(t, s, l...)
	return s
}

func appends(t *testing.T, s *seg.Seg, l ...api.Batch) {
	t.Helper()
	for _, b := range l {
		if err := s.Append(b); err != nil {
			t.Fatalf("%d: %v", b.Base, err)
		}
	}
}

func opened(t *testing.T, d *disk.Disk, base int64) *seg.Seg {
	t.Helper()
	s, _, err := seg.Open(d, base, every)
	if err != nil {
		t.Fatal(err)
	}
	return s
}

func syncs(t *testing.T, s *seg.Seg) {
	t.Helper()
	if err := s.Sync(); err != nil {
		t.Fatal(err)
	}
}

func cuts(t *testing.T, s *seg.Seg, offset int64) {
	t.Helper()
	if err := s.Cut(offset); err != nil {
		t.Fatalf("%d: %v", offset, err)
	}
}

// bytesOf is the file's bytes.
func bytesOf(t *testing.T, d *disk.Disk, base int64) []byte {
	t.Helper()
	n, err := d.Len(file(base))
	if err != nil {
		t.Fatal(err)
	}
	b, err := d.Read(file(base), 0, n)
	if err != nil {
		t.Fatal(err)
	}
	return b
}

// marks is those of an index of these batches, by the words of its chapter.
func marks(t *testing.T, every int, l []api.Batch) []index.Mark {
	t.Helper()
	var marks []index.Mark
	time, pos := int64(math.MinInt64), 0
	for _, b := range l {
		for _, r := range b.Records {
			time = max(time, r.Time)
		}
		if len(marks) == 0 || pos >= marks[len(marks)-1].Pos+every {
			marks = append(marks, index.Mark{Offset: b.Base, Time: time, Pos: pos})
		}
		pos += len(join(t, b))
	}
	return marks
}

// holds holds all that a segment tells against its batches: so many of them, from the first on, are synced.
func holds(t *testing.T, what string, s *seg.Seg, base int64, synced int, l ...api.Batch) {
	t.Helper()
	end, time := base, int64(0)
	for i, b := range l {
		end += int64(len(b.Records))
		for k, r := range b.Records {
			if i+k == 0 || r.Time > time {
				time = r.Time
			}
		}
	}
	syncedEnd := base
	for _, b := range l[:synced] {
		syncedEnd += int64(len(b.Records))
	}
	raw := join(t, l...)
	if s.Base() != base || s.End() != end || s.Synced() != syncedEnd || s.Size() != len(raw) || s.Time() != time {
		t.Errorf("%s: from %d to %d, synced to %d, %d bytes, time %d; not %d, %d, %d, %d, %d",
			what, s.Base(), s.End(), s.Synced(), s.Size(), s.Time(), base, end, syncedEnd, len(raw), time)
	}
	if got, err := s.Raw(); err != nil || !bytes.Equal(got, raw) {
		t.Errorf("%s: other bytes, %v", what, err)
	}
	if got, want := s.Index().Marks(), marks(t, every, l); !slices.Equal(got, want) {
		t.Errorf("%s: marks %v, not %v", what, got, want)
	}
	if got, err := s.Read(base, math.MaxInt); (err == nil) != (len(l) > 0) || !slices.EqualFunc(got, l, rec.Same) {
		t.Errorf("%s: other batches, %v", what, err)
	}
}

// look is all that a disk tells, but for what its power lets it not.
func look(d *disk.Disk) string {
	d = d.Clone()
	s := fmt.Sprint(d.Down(), d.Calls(), d.Used())
	if d.Down() {
		d.Crash(-1, -1, -1, -1, -1)
	}
	for _, name := range d.List() {
		n, _ := d.Len(name)
		b, _ := d.Read(name, 0, n)
		synced, _ := d.Synced(name)
		s += fmt.Sprintf(" %s %x %d", name, b, synced)
	}
	return s
}

// P7.1

func TestCreate(t *testing.T) {
	for _, base := range []int64{0, 1, 10, api.MaxOffset - 1, api.MaxOffset} {
		d := newDisk(t)
		s := made(t, d, base)
		holds(t, "created", s, base, 0)
		if d.Calls() != 3 || !slices.Equal(d.List(), []string{file(base)}) || d.Used() != 0 {
			t.Error(d.Calls(), d.List(), d.Used())
		}
		d.Crash()
		holds(t, "behind a crash", opened(t, d, base), base, 0)
	}
}

func TestCreateOfWrongNumbers(t *testing.T) {
	for _, x := range []struct {
		base  int64
		every int
		want  error
	}{
		{-1, every, api.ErrRange},
		{api.MaxOffset + 1, every, api.ErrRange},
		{math.MinInt64, every, api.ErrRange},
		{math.MaxInt64, every, api.ErrRange},
		{7, -1, api.ErrRange},
		{7, 0, api.ErrRange},
		{7, 1, nil},
		{7, 1 << 20, nil},
		{7, 1<<20 + 1, api.ErrRange},
		{7, math.MinInt, api.ErrRange},
		{7, math.MaxInt, api.ErrRange},
		{-1, 0, api.ErrRange},
	} {
		d := newDisk(t)
		s, err := seg.Create(d, x.base, x.every)
		if err != x.want || (s != nil) != (err == nil) || (d.Calls() > 0) != (err == nil) || (len(d.List()) > 0) != (err == nil) {
			t.Errorf("Create at %d, every %d: %v, %v", x.base, x.every, err, d.List())
		}
		d = newDisk(t)
		made(t, d, 7)
		was := look(d)
		s, n, err := seg.Open(d, x.base, x.every)
		if err != x.want || (s != nil) != (err == nil) || n != 0 || (look(d) != was) != (err == nil) {
			t.Errorf("Open at %d, every %d: %d, %v", x.base, x.every, n, err)
		}
	}
}

func TestCreateOfOneThatIsThere(t *testing.T) {
	d := newDisk(t)
	s := made(t, d, 7, batch(7, 1, 2))
	was := look(d)
	if s, err := seg.Create(d, 7, every); s != nil || err != api.ErrThere {
		t.Error(err)
	}
	if s, err := seg.Create(d, 7, 0); s != nil || err != api.ErrRange {
		t.Error(err)
	}
	if look(d) != was {
		t.Error("the disk is another one")
	}
	holds(t, "the one that was there", s, 7, 0, batch(7, 1, 2))
	// The name is what counts, not what made it.
	d.Create(file(9))
	if s, err := seg.Create(d, 9, every); s != nil || err != api.ErrThere {
		t.Error(err)
	}
}

func TestCreateWithoutPower(t *testing.T) {
	for n, calls := range []int{0, 0, 1, 2, 3} {
		d := newDisk(t)
		d.Arm(n)
		s, err := seg.Create(d, 7, every)
		if n == 0 || n > 3 {
			if s == nil || err != nil {
				t.Error(n, err)
			}
			continue
		}
		if s != nil || err != api.ErrCrash || d.Calls() != calls {
			t.Error(n, err, d.Calls())
		}
		if s, err := seg.Create(d, 7, every); s != nil || err != api.ErrCrash {
			t.Error(n, err)
		}
		if s, err := seg.Create(d, -1, every); s != nil || err != api.ErrRange {
			t.Error(n, err)
		}
		gone, kept := d.Clone(), d.Clone()
		gone.Crash()
		kept.Crash(1)
		if len(gone.List()) != 0 || len(kept.List()) != min(calls, 1) {
			t.Error(n, gone.List(), kept.List())
		}
	}
}

func TestOpenOfNone(t *testing.T) {
	d := newDisk(t)
	made(t, d, 7, batch(7, 1, 2))
	was := look(d)
	for _, base := range []int64{0, 6, 8, 9, api.MaxOffset} {
		if s, n, err := seg.Open(d, base, every); s != nil || n != 0 || err != api.ErrNone {
			t.Error(base, n, err)
		}
	}
	if s, n, err := seg.Open(d, 8, 0); s != nil || n != 0 || err != api.ErrRange {
		t.Error(n, err)
	}
	if look(d) != was {
		t.Error("the disk is another one")
	}
}

// opens opens a segment from 10 on whose file has those bytes, and holds it against its batches; lost is how many bytes are to be cut.
func opens(t *testing.T, what string, raw []byte, lost int, l ...api.Batch) {
	t.Helper()
	d := newDisk(t)
	d.Create(file(10))
	d.Append(file(10), raw)
	d.SyncDir()
	left := raw[:len(raw)-lost]
	calls := 1
	if lost > 0 {
		calls = 2
	}
	opensOnce(t, what, d, left, lost, calls, l...)
	d.Crash()
	// What was cut is cut, and what was there is there.
	s := opensOnce(t, what+", once more", d, left, 0, 1, l...)
	next := api.Batch{Base: s.End(), Epoch: api.MaxEpoch, Records: make([]api.Record, 1)}
	appends(t, s, next)
	holds(t, what+", and one more", s, 10, len(l), append(slices.Clone(l), next)...)
}

func opensOnce(t *testing.T, what string, d *disk.Disk, left []byte, lost, calls int, l ...api.Batch) *seg.Seg {
	t.Helper()
	was := d.Calls()
	s, n, err := seg.Open(d, 10, every)
	if err != nil || n != lost || d.Calls() != was+calls {
		t.Fatalf("%s: %d bytes cut, not %d, by %d calls, %v", what, n, lost, d.Calls()-was, err)
	}
	holds(t, what, s, 10, len(l), l...)
	if got := bytesOf(t, d, 10); !bytes.Equal(got, left) {
		t.Errorf("%s: %d bytes left", what, len(got))
	}
	if n, _ := d.Synced(file(10)); n != len(left) {
		t.Errorf("%s: %d bytes synced", what, n)
	}
	return s
}

func TestOpen(t *testing.T) {
	a, b, c := batch(10, 2, 3), batch(13, 2, 1), batch(14, 5, 2)
	opens(t, "empty", nil, 0)
	opens(t, "one", join(t, a), 0, a)
	opens(t, "three", join(t, a, b, c), 0, a, b, c)
	full := api.Batch{Base: 10, Epoch: api.MaxEpoch, Records: make([]api.Record, api.MaxRecords)}
	opens(t, "full", join(t, full), 0, full)
}

func TestOpenOfTorn(t *testing.T) {
	l := []api.Batch{batch(10, 2, 3), batch(13, 2, 1), batch(14, 5, 2)}
	for many := range len(l) {
		whole := len(join(t, l[:many]...))
		for lost := range len(join(t, l[many])) {
			opens(t, fmt.Sprintf("%d bytes behind %d", lost, many), join(t, l...)[:whole+lost], lost, l[:many]...)
		}
	}
	opens(t, "zeros behind", append(join(t, l[0]), make([]byte, 100)...), 100, l[0])
	opens(t, "just zeros", make([]byte, 100), 100)
	opens(t, "one zero", make([]byte, 1), 1)
}

func TestOpenOfWrongSums(t *testing.T) {
	l := []api.Batch{batch(10, 2, 3), batch(13, 2, 1), batch(14, 5, 2)}
	all := join(t, l...)
	for many := range len(l) {
		whole := len(join(t, l[:many]...))
		for k := range len(join(t, l[many])) {
			raw := bytes.Clone(all)
			raw[whole+k] ^= 4
			opens(t, fmt.Sprintf("byte %d of batch %d turned", k, many), raw, len(all)-whole, l[:many]...)
		}
	}
}

func TestOpenOfWrongOrder(t *testing.T) {
	a, b := batch(10, 2, 3), batch(13, 2, 1)
	behind := batch(14, 9, 2)
	for _, x := range []struct {
		what string
		l    []api.Batch
		good int // how many of them are kept
	}{
		{"the first one below", []api.Batch{batch(9, 2, 1), batch(10, 2, 1)}, 0},
		{"the first one has base", []api.Batch{batch(9, 2, 3), batch(12, 2, 1)}, 0},
		{"the first one above", []api.Batch{batch(11, 2, 3), batch(14, 2, 1)}, 0},
		{"the first one from 0 on", []api.Batch{batch(0, 2, 10), a}, 0},
		{"the second one first", []api.Batch{b, a}, 0},
		{"a gap", []api.Batch{a, batch(14, 2, 1), batch(15, 2, 1)}, 1},
		{"a gap, then one that would follow", []api.Batch{a, batch(14, 2, 1), b}, 1},
		{"one that overlaps", []api.Batch{a, batch(12, 2, 2), behind}, 1},
		{"one twice", []api.Batch{a, a, b}, 1},
		{"an epoch that falls", []api.Batch{a, batch(13, 1, 1), behind}, 1},
		{"an epoch that falls to 0", []api.Batch{a, b, batch(14, 0, 1)}, 2},
		{"an epoch that falls behind a rise", []api.Batch{a, batch(13, 9, 1), batch(14, 8, 1), batch(14, 9, 1)}, 2},
		{"an epoch that rises by most", []api.Batch{batch(10, 0, 1), batch(11, api.MaxEpoch, 1)}, 2},
		{"an epoch of 0", []api.Batch{batch(10, 0, 1), batch(11, 0, 1), batch(12, 0, 1)}, 3},
	} {
		opens(t, x.what, join(t, x.l...), len(join(t, x.l[x.good:]...)), x.l[:x.good]...)
	}
}

func TestOpenWithoutPower(t *testing.T) {
	a, b := batch(10, 2, 3), batch(13, 2, 1)
	torn := append(join(t, a, b), 1, 2, 3)
	for n := 1; n <= 2; n++ {
		d := newDisk(t)
		d.Create(file(10))
		d.SyncDir()
		d.Append(file(10), torn)
		d.Arm(n)
		for range 2 {
			if s, lost, err := seg.Open(d, 10, every); s != nil || lost != 0 || err != api.ErrCrash {
				t.Error(n, lost, err)
			}
		}
		if s, _, err := seg.Open(d, 10, 0); s != nil || err != api.ErrRange {
			t.Error(n, err)
		}
		d.Crash(0, len(torn))
		s, lost, err := seg.Open(d, 10, every)
		// Within the second call all has been cut.
		if want := []int{3, 0}[n-1]; err != nil || lost != want {
			t.Error(n, lost, err)
		}
		holds(t, "behind the crash", s, 10, 2, a, b)
	}
}

func TestSegmentsOnOneDisk(t *testing.T) {
	d := newDisk(t)
	a, b, c := batch(0, 1, 5), batch(5, 1, 2), batch(7, 0, 1)
	first, second, third := made(t, d, 0), made(t, d, 5), made(t, d, 7)
	d.Create("else")
	appends(t, second, b)
	appends(t, first, a)
	syncs(t, first)
	appends(t, third, c)
	holds(t, "first", first, 0, 1, a)
	holds(t, "second", second, 5, 0, b)
	holds(t, "third", third, 7, 0, c)
	if want := []string{"else", file(0), file(5), file(7)}; !slices.Equal(d.List(), want) {
		t.Error(d.List())
	}
	cuts(t, second, 5)
	if err := third.Remove(); err != nil {
		t.Error(err)
	}
	holds(t, "first", first, 0, 1, a)
	holds(t, "second, cut", second, 5, 0)
	if want := []string{"else", file(0), file(5)}; !slices.Equal(d.List(), want) {
		t.Error(d.List())
	}
	holds(t, "first, opened", opened(t, d, 0), 0, 1, a)
}
