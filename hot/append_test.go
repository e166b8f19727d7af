package hot_test

import (
	"fmt"
	"math"
	"slices"
	"testing"

	"cordwood/api"
	"cordwood/disk"
	"cordwood/hot"
	"cordwood/rec"
)

// P10.2

func TestAppend(t *testing.T) {
	l := []api.Batch{batch(7, 0, 1), batch(8, 0, 64), batch(72, 3, 2), batch(74, 3, 1), batch(75, api.MaxEpoch, 5)}
	d, h := made(t, 1<<20, 7)
	for i, b := range l {
		was := rec.Clone(b)
		appends(t, h, b)
		if !rec.Same(b, was) {
			t.Error("another batch", i)
		}
		holds(t, fmt.Sprint(i), h, 7, one(l[:i+1]...))
	}
	good(t, h.Flush())
	holds(t, "flushed", h, 80, one(l...))
	files(t, "one", d, []piece{{base: 7}})
}

func TestAppendUpToMaxOffset(t *testing.T) {
	d, h := made(t, 1, api.MaxOffset-2)
	for i, b := range []api.Batch{batch(api.MaxOffset-2, 1, 3), batch(api.MaxOffset, 1, 1), batch(api.MaxOffset+1, 1, 1)} {
		refused(t, fmt.Sprint(i), d, h, api.ErrRange, func() error { return h.Append(b) })
	}
	a, b := batch(api.MaxOffset-2, 1, 1), batch(api.MaxOffset-1, 1, 1)
	appends(t, h, a, b)
	holds(t, "full", h, api.MaxOffset-1, one(a), one(b))
	refused(t, "behind", d, h, api.ErrRange, func() error { return h.Append(batch(api.MaxOffset, 1, 1)) })
}

// wrong is batches that may not be, and the errors of them.
func wrong() []struct {
	b    api.Batch
	want error
} {
	long := func(key, value int) []api.Record {
		return []api.Record{{Key: make([]byte, key), Value: make([]byte, value)}}
	}
	return []struct {
		b    api.Batch
		want error
	}{
		{api.Batch{}, api.ErrMany},
		{api.Batch{Base: 10}, api.ErrMany},
		{api.Batch{Base: -1, Epoch: -1}, api.ErrMany},
		{batch(10, 2, 65), api.ErrMany},
		{batch(-1, 2, 1), api.ErrRange},
		{batch(api.MaxOffset, 2, 1), api.ErrRange},
		{batch(10, -1, 1), api.ErrRange},
		{batch(10, api.MaxEpoch+1, 1), api.ErrRange},
		{api.Batch{Base: 10, Epoch: 2, Records: long(65, 0)}, api.ErrRange},
		{api.Batch{Base: 10, Epoch: 2, Records: long(0, 513)}, api.ErrRange},
		{api.Batch{Base: 10, Epoch: 2, Records: []api.Record{{Time: api.MaxTime + 1}}}, api.ErrRange},
		{api.Batch{Base: 10, Epoch: 2, Records: []api.Record{{Time: -api.MaxTime - 1}}}, api.ErrRange},
		{api.Batch{Base: 9, Records: long(65, 0)}, api.ErrRange},
	}
}

func TestAppendToNone(t *testing.T) {
	d := newDisk(t)
	h := opened(t, d, 100)
	for i, x := range append(wrong(), wrong()[0]) {
		refused(t, fmt.Sprint(i), d, h, api.ErrNone, func() error { return h.Append(x.b) })
	}
	for _, base := range []int64{0, 1} {
		refused(t, "right", d, h, api.ErrNone, func() error { return h.Append(batch(base, 0, 1)) })
	}
}

func TestAppendOfWrong(t *testing.T) {
	for _, size := range []int{1, 1 << 20} {
		a := batch(7, 2, 3)
		d, h := made(t, size, 7, a)
		for i, x := range wrong() {
			refused(t, fmt.Sprint("wrong ", i), d, h, x.want, func() error { return h.Append(x.b) })
		}
		for _, b := range []api.Batch{a, batch(9, 2, 1), batch(11, 2, 1), batch(0, 2, 1), batch(10, 1, 1), batch(10, 0, 1), batch(9, 9, 1), batch(9, 1, 1), batch(api.MaxOffset-1, 2, 1)} {
			refused(t, fmt.Sprint("does not follow: ", b.Base, b.Epoch), d, h, api.ErrShape, func() error { return h.Append(b) })
		}
		// Without power it is still told first what is wrong of the batch.
		d.Arm(1)
		if err := h.Append(batch(10, 2, 1)); err != api.ErrCrash {
			t.Error(err)
		}
		for i, x := range wrong() {
			if err := h.Append(x.b); err != x.want {
				t.Error(i, err)
			}
		}
		if err := h.Append(batch(11, 2, 1)); err != api.ErrShape {
			t.Error(err)
		}
	}
}

// The chapter's example: with Seg 1 each batch has its segment.
func TestSegOfOne(t *testing.T) {
	l := []api.Batch{batch(0, 1, 2), batch(2, 1, 1), batch(3, 2, 64), batch(67, 2, 1)}
	d, h := made(t, 1, 0)
	var pieces []piece
	for i, b := range l {
		appends(t, h, b)
		pieces = append(pieces, one(b))
		holds(t, fmt.Sprint(i), h, b.Base, pieces...)
		files(t, fmt.Sprint(i), d, pieces)
	}
	good(t, h.Flush())
	holds(t, "opened", opened(t, d, 1), 68, pieces...)
}

// A segment has at most Seg bytes, if it has more than one batch.
func TestRoom(t *testing.T) {
	a, b := sized(t, 0, 40), sized(t, 1, 60)
	for size, rolls := range map[int]bool{1: true, 39: true, 40: true, 60: true, 98: true, 99: true, 100: false, 101: false, 1 << 20: false} {
		d, h := made(t, size, 0, a, b)
		want := []piece{one(a, b)}
		synced := int64(0)
		if rolls {
			want, synced = []piece{one(a), one(b)}, 1
		}
		holds(t, fmt.Sprint(size), h, synced, want...)
		files(t, fmt.Sprint(size), d, want)
	}
	// One that fits does not leave room for the next one, of whatever size it is.
	c, e := sized(t, 2, 30), sized(t, 3, 70)
	_, h := made(t, 100, 0, a, b, c, e)
	holds(t, "full twice", h, 2, one(a, b), one(c, e))
	_, h = made(t, 99, 0, a, b, c, e)
	holds(t, "never two full", h, 3, one(a), one(b, c), one(e))
}

// One that alone is greater than Seg has its segment, and so has each one behind it.
func TestRoomForOneTooGreat(t *testing.T) {
	small, great := sized(t, 0, 30), sized(t, 1, 500)
	behind := sized(t, 2, 30)
	d, h := made(t, 100, 0, small, great, behind)
	holds(t, "behind another", h, 2, one(small), one(great), one(behind))
	d, h = made(t, 100, 1, great)
	holds(t, "first", h, 1, one(great))
	files(t, "first", d, []piece{one(great)})
	appends(t, h, behind)
	holds(t, "first, and one behind", h, 2, one(great), one(behind))
}

// A segment that was filled by a log of another size is as full as it is.
func TestRoomOfAnotherSize(t *testing.T) {
	a, b, c := sized(t, 0, 40), sized(t, 1, 40), sized(t, 2, 40)
	d, h := made(t, 1000, 0, a, b)
	h = opened(t, d, 80)
	appends(t, h, c)
	holds(t, "opened with less", h, 2, one(a, b), one(c))
	h = opened(t, d, 1000)
	appends(t, h, sized(t, 3, 40))
	holds(t, "opened with more", h, 3, one(a, b), one(c, sized(t, 3, 40)))
}

// What the last one has is synced ahead of the next one, whose name is, too.
func TestRollSyncs(t *testing.T) {
	a, b, c := sized(t, 0, 40), sized(t, 1, 40), sized(t, 2, 40)
	d, h := made(t, 80, 0, a, b)
	if h.Synced() != 0 {
		t.Error(h.Synced())
	}
	appends(t, h, c)
	holds(t, "rolled", h, 2, one(a, b), one(c))
	d.Crash()
	holds(t, "behind a crash", opened(t, d, 80), 2, one(a, b), piece{base: 2})
}

// On a disk that is full the segment that was created stays, and takes what finds room; what comes to it is held against the last batch of all.
func TestRollWithoutRoom(t *testing.T) {
	a, b, c := sized(t, 5, 60), sized(t, 6, 60), sized(t, 6, 40)
	a.Epoch, b.Epoch, c.Epoch = 3, 3, 4
	d, err := disk.New(100)
	good(t, err)
	h := opened(t, d, 80)
	good(t, h.Begin(5), h.Append(a))
	if err := h.Append(b); err != api.ErrFull {
		t.Error(err)
	}
	empty := []piece{one(a), {base: 6}}
	holds(t, "created", h, 6, empty...)
	files(t, "created", d, empty)
	refused(t, "once more", d, h, api.ErrFull, func() error { return h.Append(b) })
	for _, epoch := range []int{0, 2} {
		elder := sized(t, 6, 40)
		elder.Epoch = epoch
		refused(t, "an elder epoch", d, h, api.ErrShape, func() error { return h.Append(elder) })
	}
	refused(t, "not at the end", d, h, api.ErrShape, func() error { return h.Append(batch(5, 4, 1)) })
	again := opened(t, d, 80)
	holds(t, "opened", again, 6, empty...)
	refused(t, "an elder epoch, opened", d, again, api.ErrShape, func() error { return again.Append(batch(6, 2, 1)) })
	appends(t, again, c)
	holds(t, "filled", again, 6, one(a), one(c))
}

// Where there is no batch left, no epoch is an elder one.
func TestEpochsOfNoBatch(t *testing.T) {
	a := batch(5, 3, 1)
	_, h := made(t, 100, 5, a)
	good(t, h.CutEnd(5))
	appends(t, h, batch(5, 0, 1))
	holds(t, "cut", h, 5, one(batch(5, 0, 1)))
	d := newDisk(t)
	lays(t, d, file(5), join(t, a))
	lays(t, d, file(6), nil)
	h = opened(t, d, 100)
	refused(t, "an elder epoch", d, h, api.ErrShape, func() error { return h.Append(batch(6, 2, 1)) })
	good(t, h.Drop())
	holds(t, "dropped", h, 6, piece{base: 6})
	appends(t, h, batch(6, 0, 1))
	holds(t, "appended", h, 6, one(batch(6, 0, 1)))
}

// Where the next segment cannot be created, nothing of the batch is there.
func TestRollToOneThatIsThere(t *testing.T) {
	a, b := sized(t, 5, 60), sized(t, 6, 60)
	d, h := made(t, 80, 5, a)
	lays(t, d, file(6), []byte("else"))
	for range 2 {
		if err := h.Append(b); err != api.ErrThere {
			t.Error(err)
		}
		if h.Start() != 5 || h.End() != 6 || len(h.Segs()) != 1 || len(h.Pairs()) != 1 {
			t.Error(tell(h))
		}
	}
	good(t, d.Remove(file(6)), h.Append(b))
	holds(t, "removed", h, 6, one(a), one(b))
}

func TestFlush(t *testing.T) {
	d := newDisk(t)
	h := opened(t, d, 100)
	refused(t, "no segment", d, h, nil, h.Flush)
	good(t, h.Begin(3), h.Flush())
	holds(t, "empty", h, 3, piece{base: 3})
	a, b, c := sized(t, 3, 40), sized(t, 4, 40), sized(t, 5, 40)
	appends(t, h, a)
	holds(t, "appended", h, 3, one(a))
	good(t, h.Flush())
	holds(t, "flushed", h, 4, one(a))
	appends(t, h, b, c)
	holds(t, "rolled", h, 5, one(a, b), one(c))
	good(t, h.Flush(), h.Flush())
	holds(t, "flushed again", h, 6, one(a, b), one(c))
	d.Crash()
	holds(t, "behind a crash", opened(t, d, 100), 6, one(a, b), one(c))
	d.Arm(1)
	if err := h.Flush(); err != api.ErrCrash {
		t.Error(err)
	}
}

// reads is what a segment's batches are from offset on, by the words of its chapter.
func reads(p piece, offset int64, most int) []api.Batch {
	var l []api.Batch
	size := 0
	for _, b := range p.l {
		if rec.Next(b) <= offset {
			continue
		}
		if b.Base < offset {
			b.Records = b.Records[offset-b.Base:]
			b.Base = offset
		}
		size += rec.Size(b)
		if len(l) > 0 && size > most {
			break
		}
		l = append(l, b)
	}
	return l
}

// Each offset is read within its segment, whatever the limit is.
func TestRead(t *testing.T) {
	d, h, pieces := three(t)
	limits := []int{math.MinInt, -1, 0, 1, math.MaxInt}
	for most := range 400 {
		limits = append(limits, most)
	}
	for _, most := range limits {
		for _, p := range pieces {
			for offset := p.base; offset < p.end(); offset++ {
				l, err := h.Read(offset, most)
				if want := reads(p, offset, most); err != nil || !slices.EqualFunc(l, want, rec.Same) {
					t.Fatal(offset, most, l, want, err)
				}
			}
		}
		for _, offset := range []int64{-1, 0, 9, 25, 26, math.MinInt64, math.MaxInt64, api.MaxOffset} {
			if l, err := h.Read(offset, most); len(l) != 0 || err != api.ErrOutside {
				t.Fatal(offset, most, l, err)
			}
		}
	}
	d.Arm(1)
	d.SyncDir()
	for offset, want := range map[int64]error{9: api.ErrOutside, 10: api.ErrCrash, 24: api.ErrCrash, 25: api.ErrOutside} {
		if l, err := h.Read(offset, 0); len(l) != 0 || err != want {
			t.Error("without power", offset, err)
		}
	}
}

func TestReadOfNone(t *testing.T) {
	h := opened(t, newDisk(t), 100)
	_, empty := made(t, 100, 7)
	for _, x := range []*hot.Log{h, empty} {
		for _, offset := range []int64{-1, 0, 6, 7, 8} {
			if l, err := x.Read(offset, 1000); len(l) != 0 || err != api.ErrOutside {
				t.Error(offset, err)
			}
		}
	}
	// An empty last segment has no offset; the one ahead of it still has its own.
	a := batch(5, 3, 2)
	d := newDisk(t)
	lays(t, d, file(5), join(t, a))
	lays(t, d, file(7), nil)
	h = opened(t, d, 100)
	if l, err := h.Read(6, 0); err != nil || len(l) != 1 || l[0].Base != 6 {
		t.Error(l, err)
	}
	if l, err := h.Read(7, 0); len(l) != 0 || err != api.ErrOutside {
		t.Error(l, err)
	}
}

// cut is the pieces, cut at offset; false, if no batch begins there, nor do they end there.
func cut(pieces []piece, offset int64) ([]piece, bool) {
	var left []piece
	is := false
	for i, p := range pieces {
		is = is || p.end() == offset && i == len(pieces)-1
		n := 0
		for _, b := range p.l {
			is = is || b.Base == offset
			if b.Base < offset {
				n++
			}
		}
		if i == 0 || p.base < offset {
			left = append(left, piece{p.base, p.l[:n]})
		}
	}
	return left, is
}

func TestCutEnd(t *testing.T) {
	for offset := int64(8); offset < 28; offset++ {
		d, h, pieces := three(t)
		good(t, d.Create("else"))
		left, is := cut(pieces, offset)
		if !is {
			refused(t, fmt.Sprint(offset), d, h, api.ErrOutside, func() error { return h.CutEnd(offset) })
			continue
		}
		good(t, h.CutEnd(offset))
		// At the end no segment has the offset: what is not synced stays so.
		synced := min(offset, 24)
		what := fmt.Sprint("cut at ", offset)
		holds(t, what, h, synced, left...)
		files(t, what, d, left, "else")
		c := d.Clone()
		holds(t, what+", opened", opened(t, c, 100), offset, left...)
		b := batch(offset, 7, 3)
		appends(t, h, b)
		left[len(left)-1].l = append(slices.Clone(left[len(left)-1].l), b)
		holds(t, what+", and appended", h, synced, left...)
		good(t, h.Flush())
		d.Crash()
		holds(t, what+", and appended, behind a crash", opened(t, d, 100), offset+3, left...)
		// The names are synced just if one was removed.
		others := map[bool][]string{true: {"else"}}[len(left) < 3]
		files(t, what+", behind a crash", d, left, others...)
	}
	for _, offset := range []int64{math.MinInt64, -1, 0, math.MaxInt64, api.MaxOffset} {
		d, h, _ := three(t)
		refused(t, fmt.Sprint(offset), d, h, api.ErrOutside, func() error { return h.CutEnd(offset) })
	}
}

// What is cut, and what is left, is durable at once, but for what a cut at the end has left as it was.
func TestCutEndIsDurable(t *testing.T) {
	for _, offset := range []int64{10, 16, 17, 18, 20, 24} {
		d, h, pieces := three(t)
		left, _ := cut(pieces, offset)
		good(t, h.CutEnd(offset))
		d.Crash()
		holds(t, fmt.Sprint(offset), opened(t, d, 100), offset, left...)
		files(t, fmt.Sprint(offset), d, left)
	}
	l := []api.Batch{batch(0, 1, 1), batch(1, 1, 1), batch(2, 1, 1)}
	d, h := made(t, 1000, 0, l...)
	good(t, h.CutEnd(2))
	holds(t, "cut", h, 2, one(l[:2]...))
	d.Crash()
	holds(t, "behind a crash", opened(t, d, 100), 2, one(l[:2]...))
}

func TestCutEndOfNone(t *testing.T) {
	d := newDisk(t)
	h := opened(t, d, 100)
	for _, offset := range []int64{-1, 0, 1} {
		refused(t, "no segment", d, h, api.ErrOutside, func() error { return h.CutEnd(offset) })
	}
	d, h = made(t, 100, 7)
	for offset, want := range map[int64]error{6: api.ErrOutside, 7: nil, 8: api.ErrOutside, 0: api.ErrOutside} {
		if err := h.CutEnd(offset); err != want {
			t.Error(offset, err)
		}
		holds(t, "empty", h, 7, piece{base: 7})
		files(t, "empty", d, []piece{{base: 7}})
	}
}

// An empty last segment begins at the end, and is removed by a cut there.
func TestCutEndOfEmptyOne(t *testing.T) {
	for _, offset := range []int64{5, 7, 8} {
		d := newDisk(t)
		a := one(batch(5, 1, 2), batch(7, 1, 1))
		lays(t, d, file(5), join(t, a.l...))
		lays(t, d, file(8), nil)
		h := opened(t, d, 100)
		good(t, d.Create("else"), h.CutEnd(offset))
		left, _ := cut([]piece{a}, offset)
		holds(t, fmt.Sprint(offset), h, offset, left...)
		d.Crash()
		files(t, fmt.Sprint(offset), d, left, "else")
	}
}

// Cut again and again, and appended to: what was cut is never there any more.
func TestCutEndAgain(t *testing.T) {
	d, h := made(t, 1, 0, batch(0, 1, 1), batch(1, 1, 1), batch(2, 2, 1), batch(3, 3, 2))
	good(t, h.CutEnd(2))
	appends(t, h, batch(2, 1, 3), batch(5, 4, 1))
	good(t, h.CutEnd(5), h.CutEnd(5))
	if err := h.CutEnd(3); err != api.ErrOutside {
		t.Error(err)
	}
	if err := h.Append(batch(5, 0, 1)); err != api.ErrShape {
		t.Error(err)
	}
	appends(t, h, batch(5, 1, 1))
	want := []piece{one(batch(0, 1, 1)), one(batch(1, 1, 1)), one(batch(2, 1, 3)), one(batch(5, 1, 1))}
	holds(t, "appended", h, 5, want...)
	good(t, h.Flush())
	d.Crash(9, 9, 9, 9, 9, 9)
	holds(t, "opened", opened(t, d, 100), 6, want...)
}

func TestDrop(t *testing.T) {
	d := newDisk(t)
	h := opened(t, d, 100)
	refused(t, "none", d, h, api.ErrNone, h.Drop)
	d, h = made(t, 100, 7)
	refused(t, "an empty one", d, h, api.ErrNone, h.Drop)
	appends(t, h, batch(7, 1, 1))
	refused(t, "one", d, h, api.ErrNone, h.Drop)

	d, h, pieces := three(t)
	for n := 1; n < 3; n++ {
		name := fmt.Sprint("else-", n)
		good(t, d.Create(name), h.Drop())
		holds(t, fmt.Sprint("dropped ", n), h, 24, pieces[n:]...)
		c := d.Clone()
		c.Crash()
		if got := c.List(); len(got) != 3 || slices.Contains(got, file(pieces[n-1].base)) || !slices.Contains(got, name) {
			t.Error(n, got)
		}
	}
	refused(t, "the last one", d, h, api.ErrNone, h.Drop)
	appends(t, h, batch(25, 5, 1))
	good(t, h.Flush())
	pieces[2].l = append(pieces[2].l, batch(25, 5, 1))
	holds(t, "appended", h, 26, pieces[2])
	holds(t, "opened", opened(t, d, 100), 26, pieces[2])
	good(t, h.CutEnd(20))
	holds(t, "cut", h, 20, piece{base: 20})
}

// Ahead of the start no batch begins any more.
func TestCutEndBehindDrop(t *testing.T) {
	d, h, pieces := three(t)
	good(t, h.Drop())
	for _, offset := range []int64{10, 16} {
		refused(t, "dropped", d, h, api.ErrOutside, func() error { return h.CutEnd(offset) })
	}
	good(t, h.CutEnd(18))
	holds(t, "cut", h, 18, one(pieces[1].l[:1]...))
}
