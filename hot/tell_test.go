package hot_test

import (
	"fmt"
	"math"
	"slices"
	"testing"

	"cordwood/api"
	"cordwood/hot"
	"cordwood/rec"
)

// P10.3

// missing holds that no segment begins at any of these.
func missing(t *testing.T, what string, h *hot.Log, bases ...int64) {
	t.Helper()
	for _, base := range bases {
		if raw, err := h.Raw(base); len(raw) != 0 || err != api.ErrNone {
			t.Error(what, "Raw", base, raw, err)
		}
		if marks, err := h.Marks(base); len(marks) != 0 || err != api.ErrNone {
			t.Error(what, "Marks", base, marks, err)
		}
		if time, err := h.Time(base); time != 0 || err != api.ErrNone {
			t.Error(what, "Time", base, time, err)
		}
	}
}

func TestTellOfNone(t *testing.T) {
	h := opened(t, newDisk(t), 100)
	if h.Start() != 0 || h.End() != 0 || h.Synced() != 0 || len(h.Segs()) != 0 || len(h.Pairs()) != 0 {
		t.Error(tell(h), h.Synced())
	}
	missing(t, "none", h, 0, 1, -1, math.MinInt64, math.MaxInt64)
}

func TestTellOfEmpty(t *testing.T) {
	_, h := made(t, 100, 7)
	if h.Start() != 7 || h.End() != 7 || h.Synced() != 7 || !slices.Equal(h.Segs(), [][3]int64{{7, 7, 0}}) || len(h.Pairs()) != 0 {
		t.Error(tell(h), h.Synced())
	}
	raw, err := h.Raw(7)
	if len(raw) != 0 || err != nil {
		t.Error(raw, err)
	}
	if time, err := h.Time(7); time != 0 || err != nil {
		t.Error(time, err)
	}
	// Sealed: every, and no mark.
	if marks, err := h.Marks(7); len(marks) != 6 || marks[0] != every || marks[1] != 0 || err != nil {
		t.Error(marks, err)
	}
	missing(t, "empty", h, 0, 6, 8, -1, math.MinInt64, math.MaxInt64)
}

func TestTell(t *testing.T) {
	_, h, pieces := three(t)
	holds(t, "three", h, 24, pieces...)
	if !slices.Equal(h.Pairs(), []api.Pair{{Epoch: 1, Start: 10}, {Epoch: 2, Start: 17}, {Epoch: 4, Start: 18}, {Epoch: 5, Start: 24}}) {
		t.Error(h.Pairs())
	}
	missing(t, "three", h, 0, 9, 11, 16, 18, 19, 24, 25, -1, math.MinInt64, math.MaxInt64)
	good(t, h.Drop())
	missing(t, "dropped", h, 10)
	if !slices.Equal(h.Pairs(), []api.Pair{{Epoch: 2, Start: 17}, {Epoch: 4, Start: 18}, {Epoch: 5, Start: 24}}) {
		t.Error(h.Pairs())
	}
	good(t, h.CutEnd(20))
	missing(t, "cut", h, 20)
	if !slices.Equal(h.Pairs(), []api.Pair{{Epoch: 2, Start: 17}, {Epoch: 4, Start: 18}}) {
		t.Error(h.Pairs())
	}
}

// An epoch that goes through several segments begins once; where the first of them is dropped, it begins with the next one. There may be more of them than a lineage has.
func TestPairs(t *testing.T) {
	_, h := made(t, 1, 3, batch(3, 0, 2), batch(5, 0, 1), batch(6, 0, 4), batch(10, 6, 1), batch(11, 6, 1))
	for i, start := range []int64{3, 5, 6} {
		if got := h.Pairs(); !slices.Equal(got, []api.Pair{{Epoch: 0, Start: start}, {Epoch: 6, Start: 10}}) {
			t.Error(i, got)
		}
		good(t, h.Drop())
	}
	if got := h.Pairs(); !slices.Equal(got, []api.Pair{{Epoch: 6, Start: 10}}) {
		t.Error(got)
	}
	_, h = made(t, 1000, 0)
	for i := range api.MaxEpochs + 10 {
		appends(t, h, batch(int64(i), i, 1))
	}
	if got := h.Pairs(); len(got) != api.MaxEpochs+10 || got[0] != (api.Pair{}) || got[100] != (api.Pair{Epoch: 100, Start: 100}) {
		t.Error(got)
	}
}

// A greatest time may be below 0, and may be ahead of others.
func TestTime(t *testing.T) {
	timed := func(base int64, times ...int64) api.Batch {
		b := api.Batch{Base: base}
		for _, time := range times {
			b.Records = append(b.Records, api.Record{Time: time})
		}
		return b
	}
	d := newDisk(t)
	h := opened(t, d, 50)
	good(t, h.Begin(0))
	appends(t, h, timed(0, -5, -7), timed(2, 5, 9, 3, 4, 4, 4, 4, 4), timed(10, api.MaxTime, -api.MaxTime))
	for _, x := range []*hot.Log{h, opened(t, d, 50)} {
		for base, want := range map[int64]int64{0: -5, 2: 9, 10: api.MaxTime} {
			if got, err := x.Time(base); got != want || err != nil {
				t.Error(base, got, want, err)
			}
		}
	}
}

// What was synced ends at a whole batch.
func TestSynced(t *testing.T) {
	a, b, c := batch(5, 1, 3), batch(8, 1, 1), batch(9, 1, 1)
	d, h := made(t, 1000, 5, a)
	if h.Synced() != 5 {
		t.Error(h.Synced())
	}
	good(t, h.Flush())
	appends(t, h, b, c)
	if h.Synced() != 8 {
		t.Error(h.Synced())
	}
	for size := range len(join(t, b, c)) {
		x := d.Clone()
		x.Crash(0, size)
		end := int64(8)
		if size >= rec.Size(b) {
			end = 9
		}
		if l := opened(t, x, 1000); l.Synced() != end || l.End() != end {
			t.Error(size, l.Synced(), l.End())
		}
	}
}

// Without power all is told but what lies in files.
func TestTellWithoutPower(t *testing.T) {
	d, h, pieces := three(t)
	was := tell(h)
	d.Arm(1)
	if err := h.Append(batch(25, 5, 1)); err != api.ErrCrash {
		t.Error(err)
	}
	if tell(h) != was || h.Synced() != 24 {
		t.Error(tell(h), was, h.Synced())
	}
	for _, p := range pieces {
		if raw, err := h.Raw(p.base); len(raw) != 0 || err != api.ErrCrash {
			t.Error(p.base, raw, err)
		}
	}
	missing(t, "without power", h, 0, 9, 16, 25)
	for i, x := range []struct {
		call func() error
		want error
	}{
		{h.Flush, api.ErrCrash},
		{h.Drop, api.ErrCrash},
		{func() error { return h.Begin(25) }, api.ErrState},
		{func() error { return h.Append(batch(25, 5, 1)) }, api.ErrCrash},
		{func() error { return h.Append(batch(24, 5, 1)) }, api.ErrShape},
		{func() error { return h.CutEnd(10) }, api.ErrCrash},
		{func() error { return h.CutEnd(18) }, api.ErrCrash},
		{func() error { return h.CutEnd(24) }, api.ErrCrash},
		{func() error { return h.CutEnd(19) }, api.ErrOutside},
		{func() error { return h.CutEnd(9) }, api.ErrOutside},
		{func() error { return h.CutEnd(26) }, api.ErrOutside},
	} {
		if err := x.call(); err != x.want || tell(h) != was {
			t.Error(i, err)
		}
	}
}

// P0.4

// What is handed in is not kept: a batch that is changed afterwards changes no log.
func TestHandedIn(t *testing.T) {
	b := batch(7, 1, 3)
	records := append(b.Records, api.Record{Key: []byte("behind")})
	_, h := made(t, 1000, 7, api.Batch{Base: 7, Epoch: 1, Records: records[:3]})
	if string(records[3].Key) != "behind" {
		t.Error("what lies behind is another one")
	}
	for i := range records {
		copy(records[i].Key, "zz")
		copy(records[i].Value, "zzzzzzzz")
		records[i] = api.Record{Time: 99}
	}
	holds(t, "changed", h, 7, one(batch(7, 1, 3)))
}

// spoil writes into all of a list's memory, its spare room, too.
func spoil[T any](l []T, x T) {
	l = l[:cap(l)]
	for i := range l {
		l[i] = x
	}
}

// What is handed out is nobody else's: a change of it changes no log, and nothing else that was handed out.
func TestHandedOut(t *testing.T) {
	_, h, pieces := three(t)
	read := func() []api.Batch {
		l, err := h.Read(17, math.MaxInt)
		good(t, err)
		return l
	}
	kept, keptSegs, keptPairs := read(), h.Segs(), h.Pairs()
	was := fmt.Sprint(kept, keptSegs, keptPairs)
	for _, b := range read() {
		for _, r := range b.Records {
			spoil(r.Key, 'z')
			spoil(r.Value, 'z')
		}
		spoil(b.Records, api.Record{Time: 99})
	}
	spoil(read(), api.Batch{Base: 99})
	spoil(h.Segs(), [3]int64{99, 99, 99})
	spoil(h.Pairs(), api.Pair{Epoch: 99, Start: 99})
	for _, p := range pieces {
		raw, _ := h.Raw(p.base)
		marks, _ := h.Marks(p.base)
		spoil(raw, 'z')
		spoil(marks, 'z')
	}
	holds(t, "spoilt", h, 24, pieces...)
	if got := fmt.Sprint(kept, keptSegs, keptPairs); got != was {
		t.Error(got, was)
	}
	// Within one answer, too.
	l := read()
	for i, r := range l[1].Records {
		spoil(r.Key, 'z')
		spoil(l[1].Records[i].Value, 'y')
		_ = append(r.Key, "zzz"...)
	}
	_ = append(l[0].Records, api.Record{})
	if !rec.Same(l[0], pieces[1].l[0]) {
		t.Error(l[0])
	}
	appends(t, h, batch(25, 6, 1))
	if fmt.Sprint(kept, keptSegs, keptPairs) != was {
		t.Error("what was handed out is another one behind Append")
	}
}
