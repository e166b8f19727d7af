package seg_test

import (
	"bytes"
	"fmt"
	"math"
	"slices"
	"testing"

	"cordwood/api"
	"cordwood/disk"
	"cordwood/rec"
	"cordwood/seg"
)

// P7.3

// wants is what Read is to tell, record by record.
func wants(t *testing.T, l []api.Batch, offset int64, most int) []api.Batch {
	t.Helper()
	var told []api.Batch
	size := 0
	for _, b := range l {
		part := api.Batch{Base: max(b.Base, offset), Epoch: b.Epoch}
		for i, r := range b.Records {
			if b.Base+int64(i) >= offset {
				part.Records = append(part.Records, r)
			}
		}
		if len(part.Records) == 0 {
			continue
		}
		size += len(join(t, part))
		if len(told) > 0 && size > most {
			break
		}
		told = append(told, part)
	}
	return told
}

func readsAs(t *testing.T, s *seg.Seg, l []api.Batch, offset int64, most int) {
	t.Helper()
	want := wants(t, l, offset, most)
	if got, err := s.Read(offset, most); err != nil || !slices.EqualFunc(got, want, rec.Same) {
		t.Errorf("from %d on, at most %d: %v, %v, not %v", offset, most, got, err, want)
	}
}

func three() []api.Batch { return []api.Batch{batch(10, 2, 3), batch(13, 2, 1), batch(14, 5, 3)} }

func TestReadByHand(t *testing.T) {
	s := made(t, newDisk(t), 0, timed(0, 10, 11, 12), timed(3, 13, 14, 15))
	l, err := s.Read(4, 0)
	if err != nil || len(l) != 1 || !rec.Same(l[0], timed(4, 14, 15)) {
		t.Error(l, err)
	}
	l, err = s.Read(2, 26+28)
	if err != nil || len(l) != 1 || !rec.Same(l[0], timed(2, 12)) {
		t.Error(l, err)
	}
}

func TestRead(t *testing.T) {
	l := three()
	d := newDisk(t)
	s := made(t, d, 10, l...)
	calls := d.Calls()
	limits := []int{math.MinInt, -1 << 40, -1, 1 << 40, math.MaxInt - 1, math.MaxInt}
	for most := range s.Size() + 3 {
		limits = append(limits, most)
	}
	for offset := int64(10); offset < 17; offset++ {
		for _, most := range limits {
			readsAs(t, s, l, offset, most)
		}
	}
	if d.Calls() != calls {
		t.Error("it changes something")
	}
}

// The limits that just hold one batch more, told here once in numbers: the first batch counts as it is told.
func TestReadUpToItsLimit(t *testing.T) {
	l := three()
	s := made(t, newDisk(t), 10, l...)
	tail := rec.Size(api.Batch{Base: 12, Epoch: 2, Records: l[0].Records[2:]})
	two := tail + rec.Size(l[1])
	all := two + rec.Size(l[2])
	for most, want := range map[int]int{-1: 1, 0: 1, 1: 1, tail - 1: 1, tail: 1, two - 1: 1, two: 2, two + 1: 2, all - 1: 2, all: 3, all + 1: 3} {
		if got, err := s.Read(12, most); err != nil || len(got) != want || got[0].Base != 12 || len(got[0].Records) != 1 {
			t.Errorf("at most %d: %d, not %d, %v", most, len(got), want, err)
		}
	}
}

func TestReadOutside(t *testing.T) {
	d := newDisk(t)
	empty := made(t, d, 3)
	s := made(t, d, 10, three()...)
	for _, offset := range []int64{math.MinInt64, -1, 0, 9, 17, 18, api.MaxOffset, math.MaxInt64} {
		if l, err := s.Read(offset, 1000); len(l) != 0 || err != api.ErrOutside {
			t.Error(offset, l, err)
		}
	}
	for _, offset := range []int64{2, 3, 4} {
		if l, err := empty.Read(offset, 1000); len(l) != 0 || err != api.ErrOutside {
			t.Error(offset, l, err)
		}
	}
}

func TestReadIsNewMemory(t *testing.T) {
	l := three()
	s := made(t, newDisk(t), 10, l...)
	first, _ := s.Read(11, 1000)
	second, _ := s.Read(11, 1000)
	for i := range first {
		rest := slices.Clone(first[i+1:])
		for k := range first[i].Records {
			r := &first[i].Records[k]
			spoil(r.Key)
			spoil(r.Value)
		}
		records := first[i].Records
		for k := range records[:cap(records)] {
			records[:cap(records)][k] = api.Record{Time: 77}
		}
		if !slices.EqualFunc(rest, wants(t, l, 11, 1000)[i+1:], rec.Same) {
			t.Error("two batches of an answer share something")
		}
	}
	clear(first[:cap(first)])
	if !slices.EqualFunc(second, wants(t, l, 11, 1000), rec.Same) {
		t.Error("two answers share something")
	}
	holds(t, "behind", s, 10, 0, l...)
}

func spoil(b []byte) {
	for i := range b[:cap(b)] {
		b[:cap(b)][i] = '!'
	}
}

func TestCut(t *testing.T) {
	l := three()
	for offset := int64(10); offset <= 17; offset++ {
		d := newDisk(t)
		s := made(t, d, 10, l...)
		left := slices.IndexFunc(l, func(b api.Batch) bool { return b.Base == offset })
		if offset == 17 {
			left = len(l)
		}
		if left < 0 {
			refuses(t, fmt.Sprint("Cut at ", offset), d, s, func() error { return s.Cut(offset) }, api.ErrOutside)
			continue
		}
		calls := d.Calls()
		cuts(t, s, offset)
		what := fmt.Sprint("cut at ", offset)
		holds(t, what, s, 10, left, l[:left]...)
		if d.Calls() != calls+1 || !bytes.Equal(bytesOf(t, d, 10), join(t, l[:left]...)) {
			t.Error(offset, d.Calls()-calls)
		}
		for i := left; i < len(l); i++ {
			if got, err := s.Read(l[i].Base, 0); len(got) != 0 || err != api.ErrOutside {
				t.Error(offset, got, err)
			}
		}
		c := d.Clone()
		c.Crash()
		holds(t, what+", behind a crash", opened(t, c, 10), 10, left, l[:left]...)
		// Twice is as once.
		cuts(t, s, offset)
		holds(t, what+" twice", s, 10, left, l[:left]...)
	}
}

func TestCutOutside(t *testing.T) {
	d := newDisk(t)
	s := made(t, d, 10, three()...)
	for _, offset := range []int64{math.MinInt64, -1, 0, 9, 11, 12, 15, 16, 18, api.MaxOffset, math.MaxInt64} {
		refuses(t, fmt.Sprint("Cut at ", offset), d, s, func() error { return s.Cut(offset) }, api.ErrOutside)
	}
	empty := made(t, d, 3)
	for _, offset := range []int64{2, 4} {
		refuses(t, fmt.Sprint("Cut at ", offset), d, empty, func() error { return empty.Cut(offset) }, api.ErrOutside)
	}
	cuts(t, empty, 3)
	holds(t, "none cut", empty, 3, 0)
}

// What was cut does not count any more: not its epoch, not its time, not its mark.
func TestAppendBehindCut(t *testing.T) {
	l := three()
	s := made(t, newDisk(t), 10, l[0], l[1], api.Batch{Base: 14, Epoch: 5, Records: []api.Record{{Time: 1000}}})
	if s.Time() != 1000 || s.Append(batch(15, 4, 1)) != api.ErrShape {
		t.Error(s.Time())
	}
	cuts(t, s, 14)
	if err := s.Append(batch(14, 1, 1)); err != api.ErrShape {
		t.Error(err)
	}
	if err := s.Append(batch(15, 5, 1)); err != api.ErrShape {
		t.Error(err)
	}
	anew := batch(14, 2, 5)
	appends(t, s, anew)
	holds(t, "appended", s, 10, 2, l[0], l[1], anew)
	syncs(t, s)
	holds(t, "synced", s, 10, 3, l[0], l[1], anew)
	cuts(t, s, 10)
	appends(t, s, batch(10, 0, 2))
	holds(t, "anew from the beginning", s, 10, 0, batch(10, 0, 2))
}

// A file that the disk's own calls have changed: nothing of it is told as the segment's that may not be, and no call panics.
func TestReadOfAnotherFile(t *testing.T) {
	l := three()
	turned := join(t, l...)
	turned[len(join(t, l[0]))-1] ^= 1
	for what, x := range map[string]struct {
		raw  []byte
		want error
	}{
		"shorter":              {join(t, l[0])[:20], api.ErrRange},
		"empty":                {nil, api.ErrRange},
		"other offsets":        {join(t, batch(20, 2, 3), batch(23, 2, 1), batch(24, 5, 3)), api.ErrShape},
		"a byte turned":        {turned, api.ErrSum},
		"zeros":                {make([]byte, 500), api.ErrShape},
		"a batch said longer":  {bytes.Repeat([]byte{250, 0, 0, 0}, 100), api.ErrEnd},
		"a batch far too long": {bytes.Repeat([]byte{255}, 500), api.ErrMany},
	} {
		d := newDisk(t)
		s := made(t, d, 10, l...)
		replace(t, d, x.raw)
		for offset := int64(10); offset < 13; offset++ {
			if got, err := s.Read(offset, 1000); len(got) != 0 || err != x.want {
				t.Errorf("%s, from %d on: %v, %v, not %v", what, offset, got, err, x.want)
			}
		}
		s.Synced()
		s.Raw()
		s.Cut(13)
		s.Append(batch(s.End(), 9, 1))
		s.Sync()
		s.Read(13, 1000)
	}
}

// As many bytes, but other batches.
func TestReadOfOtherBatches(t *testing.T) {
	a, b, c := timed(10, 0), timed(11, 0), timed(12, 0)
	long := func(base int64, more int) api.Batch {
		return api.Batch{Base: base, Records: []api.Record{{Value: make([]byte, more)}}}
	}
	for _, x := range []struct {
		what   string
		l      []api.Batch
		others []api.Batch
		offset int64
	}{
		{"another one behind the first", []api.Batch{a, b}, []api.Batch{a, c}, 10},
		{"two for one", []api.Batch{long(10, 26)}, []api.Batch{a, b}, 10},
		{"one for two, behind the first", []api.Batch{a, b, c}, []api.Batch{a, long(11, 26)}, 10},
		{"one record for two", []api.Batch{timed(10, 0, 0)}, []api.Batch{long(10, 3)}, 11},
		{"two records for one, that end there", []api.Batch{long(10, 3)}, []api.Batch{timed(9, 0, 0)}, 10},
		{"two records for one, that begin there", []api.Batch{long(10, 3)}, []api.Batch{timed(10, 0, 0)}, 10},
	} {
		d := newDisk(t)
		s := made(t, d, 10, x.l...)
		replace(t, d, join(t, x.others...))
		if got, err := s.Read(x.offset, 1000); len(got) != 0 || err != api.ErrShape {
			t.Errorf("%s: %v, %v", x.what, got, err)
		}
	}
}

// replace gives the file from 10 on these bytes.
func replace(t *testing.T, d *disk.Disk, raw []byte) {
	t.Helper()
	if d.Cut(file(10), 0) != nil || d.Append(file(10), raw) != nil {
		t.Fatal("not replaced")
	}
}
