package hot_test

import (
	"fmt"
	"slices"
	"testing"

	"cordwood/api"
	"cordwood/disk"
	"cordwood/hot"
	"cordwood/rec"
)

// P10.4

// left is what a crash may leave: of these batches, that begin there, or, if the first segment was being dropped, further on, all that were ahead of least.
type left struct {
	l      []api.Batch
	starts []int64
	least  int64
}

// batches is all that a log has, read segment by segment.
func batches(t *testing.T, h *hot.Log) []api.Batch {
	t.Helper()
	var all []api.Batch
	for at := h.Start(); at < h.End(); at = rec.Next(all[len(all)-1]) {
		l, err := h.Read(at, 0)
		if err != nil || len(l) != 1 {
			t.Fatal(at, l, err)
		}
		all = append(all, l...)
	}
	return all
}

// holdsLeft opens the disk behind a crash, twice, and holds the log against what may be left.
func holdsLeft(t *testing.T, what string, d *disk.Disk, size int, x left) *hot.Log {
	t.Helper()
	h := opened(t, d, size)
	got := batches(t, h)
	if len(h.Segs()) > 0 && !slices.Contains(x.starts, h.Start()) || h.End() < x.least || h.Synced() != h.End() {
		t.Fatalf("%s: from %d to %d, synced to %d; not %v, %d", what, h.Start(), h.End(), h.Synced(), x.starts, x.least)
	}
	from := slices.IndexFunc(x.l, func(b api.Batch) bool { return b.Base >= h.Start() })
	if len(got) > 0 && (from < 0 || len(got) > len(x.l)-from || !slices.EqualFunc(got, x.l[from:from+len(got)], rec.Same)) {
		t.Fatalf("%s: %v are not of %v", what, got, x.l)
	}
	was := tell(h)
	if again := tell(opened(t, d, size)); again != was {
		t.Fatalf("%s: opened twice it is another one: %s, not %s", what, again, was)
	}
	d.Crash()
	h = opened(t, d, size)
	if again := tell(h); again != was {
		t.Fatalf("%s: behind another crash it is another one: %s, not %s", what, again, was)
	}
	return h
}

// crashes lets the power go in each call of what is done to a ground, one after the other, and opens what is left, whatever the crash keeps. How many calls there were is the answer.
func crashes(t *testing.T, what string, size int, ground func() (*disk.Disk, *hot.Log), do func(*hot.Log) error, x left) int {
	t.Helper()
	for n := 1; n < 20; n++ {
		d, h := ground()
		was, segs, synced := tell(h), h.Segs(), h.Synced()
		d.Arm(n)
		err := do(h)
		d.Arm(0)
		if err != nil && err != api.ErrCrash {
			t.Fatal(what, n, err)
		}
		// Just a segment that was created may stay, empty, and what was synced.
		empty := append(segs, [3]int64{h.End(), h.End(), 0})
		if err != nil && (tell(h) != was && !slices.Equal(h.Segs(), empty) || h.Synced() < synced) {
			t.Errorf("%s, %d: %s, synced to %d; not %s, %d", what, n, tell(h), h.Synced(), was, synced)
		}
		for moves := range 5 {
			for pick := range 40 {
				c := d.Clone()
				c.Crash(moves, pick*7, pick*5, pick*3, pick*7)
				holdsLeft(t, fmt.Sprint(what, ": ", n, moves, pick), c, size, x)
			}
		}
		if err == nil {
			return n - 1
		}
	}
	t.Fatal(what, "never without a crash")
	return 0
}

// many is the batches of five segments: each has two, the last one of them is not synced.
func many() []api.Batch {
	var l []api.Batch
	for i := range 10 {
		l = append(l, batch(int64(10+2*i), 1+i/3, 2))
	}
	return l
}

// five is a log of these, with room for one more in the last segment, if it is not full.
func five(t *testing.T, size int, l []api.Batch) func() (*disk.Disk, *hot.Log) {
	return func() (*disk.Disk, *hot.Log) {
		d, h := made(t, size, 10, l[:len(l)-1]...)
		good(t, h.Flush())
		appends(t, h, l[len(l)-1])
		return d, h
	}
}

// sizeOfTwo is room for two of many's batches, but not for three.
func sizeOfTwo(t *testing.T) int {
	t.Helper()
	l := many()
	size := 0
	for i := 1; i < len(l); i++ {
		size = max(size, rec.Size(l[i-1])+rec.Size(l[i]))
	}
	for i := 2; i < len(l); i++ {
		if rec.Size(l[i-2])+rec.Size(l[i-1])+rec.Size(l[i]) <= size {
			t.Fatal("three have room, too")
		}
	}
	return size
}

func TestCrashInBegin(t *testing.T) {
	for _, base := range []int64{0, 7, api.MaxOffset} {
		ground := func() (*disk.Disk, *hot.Log) {
			d := newDisk(t)
			return d, opened(t, d, 100)
		}
		n := crashes(t, "Begin", 100, ground, func(h *hot.Log) error { return h.Begin(base) }, left{starts: []int64{base}})
		if n != 3 {
			t.Error(base, n)
		}
	}
}

func TestCrashInAppend(t *testing.T) {
	l, size := many(), sizeOfTwo(t)
	next := batch(30, 4, 2)
	all := append(slices.Clone(l), next)
	// The last segment is full: it is synced, and another one is created.
	n := crashes(t, "rolled", size, five(t, size, l), func(h *hot.Log) error { return h.Append(next) }, left{all, []int64{10}, 28})
	if n != 5 {
		t.Error("rolled", n)
	}
	n = crashes(t, "has room", size, five(t, size, l[:9]), func(h *hot.Log) error { return h.Append(l[9]) }, left{l, []int64{10}, 26})
	if n != 1 {
		t.Error("has room", n)
	}
}

// An Append that answers has what is ahead of a new segment synced.
func TestCrashBehindRoll(t *testing.T) {
	l, size := many(), sizeOfTwo(t)
	next := batch(30, 4, 2)
	d, h := five(t, size, l)()
	appends(t, h, next)
	for moves := range 3 {
		for pick := range 200 {
			c := d.Clone()
			c.Crash(moves, pick, pick, pick, pick, pick, pick)
			holdsLeft(t, fmt.Sprint("rolled: ", moves, pick), c, size, left{append(slices.Clone(l), next), []int64{10}, 30})
		}
	}
}

func TestCrashInFlush(t *testing.T) {
	l, size := many(), sizeOfTwo(t)
	if n := crashes(t, "Flush", size, five(t, size, l), (*hot.Log).Flush, left{l, []int64{10}, 28}); n != 1 {
		t.Error(n)
	}
	d, h := five(t, size, l)()
	good(t, h.Flush())
	d.Crash()
	holdsLeft(t, "flushed", d, size, left{l, []int64{10}, 30})
}

// Within a cut what is ahead of its offset, and synced, stays; what is behind may still be there, but without a gap.
func TestCrashInCutEnd(t *testing.T) {
	l, size := many(), sizeOfTwo(t)
	for offset := int64(10); offset <= 30; offset += 2 {
		do := func(h *hot.Log) error { return h.CutEnd(offset) }
		crashes(t, fmt.Sprint("cut at ", offset), size, five(t, size, l), do, left{l, []int64{10}, min(offset, 28)})
		d, h := five(t, size, l)()
		good(t, h.CutEnd(offset))
		for pick := range 5 {
			c := d.Clone()
			c.Crash(pick, pick, pick, pick, pick, pick)
			holdsLeft(t, fmt.Sprint("behind a cut at ", offset), c, size, left{l[:(offset-10)/2], []int64{10}, min(offset, 28)})
		}
	}
}

// What is appended behind a cut is there, or what there was ahead of the cut is not.
func TestCrashInAppendBehindCutEnd(t *testing.T) {
	l, size := many(), sizeOfTwo(t)
	for offset := int64(10); offset <= 28; offset += 2 {
		next := batch(offset, 9, 1)
		ground := func() (*disk.Disk, *hot.Log) {
			d, h := five(t, size, l)()
			good(t, h.CutEnd(offset))
			return d, h
		}
		do := func(h *hot.Log) error { return h.Append(next) }
		crashes(t, fmt.Sprint("appended behind a cut at ", offset), size, ground, do, left{append(slices.Clone(l[:(offset-10)/2]), next), []int64{10}, offset})
	}
}

func TestCrashInDrop(t *testing.T) {
	l, size := many(), sizeOfTwo(t)
	n := crashes(t, "Drop", size, five(t, size, l), (*hot.Log).Drop, left{l, []int64{10, 14}, 28})
	if n != 2 {
		t.Error(n)
	}
	d, h := five(t, size, l)()
	for _, start := range []int64{14, 18, 22, 26} {
		good(t, h.Drop())
		c := d.Clone()
		c.Crash()
		holdsLeft(t, fmt.Sprint("dropped to ", start), c, size, left{l, []int64{start}, 28})
	}
}

// Within an Open that removes, or cuts, nothing comes to be that an Open without a crash does not have.
func TestCrashInOpen(t *testing.T) {
	for _, x := range misfits() {
		for _, torn := range [][]byte{nil, {1, 2, 3}} {
			ground := newDisk(t)
			for _, p := range x.l {
				lays(t, ground, file(p.base), append(join(t, p.l...), torn...))
			}
			n := 1
			for crashesInOpen(t, fmt.Sprint(x.what, ", ", len(torn), " bytes behind, "), ground.Clone(), n, x.l[:x.good]) {
				n++
			}
			// Each segment is opened, one at least is removed, and the names are synced.
			if n < len(x.l)+2 {
				t.Error(x.what, n)
			}
		}
	}
}

// crashesInOpen lets the power go in the n-th call of an Open, and tells whether there is one; behind each crash the log is to have those pieces.
func crashesInOpen(t *testing.T, what string, d *disk.Disk, n int, pieces []piece) bool {
	t.Helper()
	end := pieces[len(pieces)-1].end()
	d.Arm(n)
	h, err := hot.Open(d, hot.Config{Seg: 100, Every: every})
	if err == nil {
		holds(t, what, h, end, pieces...)
		return false
	}
	if h != nil || err != api.ErrCrash {
		t.Error(what, n, h, err)
	}
	for moves := range 6 {
		c := d.Clone()
		c.Crash(moves, n, n, n)
		holds(t, fmt.Sprint(what, n, moves), opened(t, c, 100), end, pieces...)
		files(t, what, c, pieces)
		c.Crash()
		holds(t, fmt.Sprint(what, n, moves, " twice"), opened(t, c, 100), end, pieces...)
	}
	return true
}
