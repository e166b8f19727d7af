package rec_test

import (
	"math"
	"strings"
	"testing"

	"cordwood/api"
	"cordwood/rec"
)

// record is one that came at time.
func record(time int64, key, value string) api.Record {
	return api.Record{Time: time, Key: []byte(key), Value: []byte(value)}
}

// batch is one whose records differ, with times that go up and down.
func batch(base int64, epoch, many int) api.Batch {
	b := api.Batch{Base: base, Epoch: epoch}
	for i := range many {
		time := int64(1000) - 7*int64(i)
		if i%3 == 1 {
			time = int64(i) << (i % 30)
		}
		b.Records = append(b.Records, record(time, strings.Repeat("k", i%5), strings.Repeat("v", 10*i%17)))
	}
	return b
}

// with is a batch of these records, and nothing else.
func with(l ...api.Record) api.Batch { return api.Batch{Records: l} }

// full has as many records as may be, each with all the bytes that may be, and times that take all the bytes that they can.
func full() api.Batch {
	b := api.Batch{Base: api.MaxOffset - api.MaxRecords, Epoch: api.MaxEpoch}
	for i := range api.MaxRecords {
		time := int64(-api.MaxTime)
		if i%2 == 1 {
			time = api.MaxTime
		}
		b.Records = append(b.Records, record(time, strings.Repeat("\xff", api.MaxKey), strings.Repeat("\x00", api.MaxValue)))
	}
	return b
}

// rights is batches that may be, the ones at the edges among them.
func rights() []api.Batch {
	return []api.Batch{
		with(api.Record{}),
		with(make([]api.Record, api.MaxRecords)...),
		with(record(5, "key", "value")),
		with(record(api.MaxTime, "", "v")),
		with(record(-api.MaxTime, "k", "")),
		with(record(api.MaxTime, "", ""), record(-api.MaxTime, "", ""), record(api.MaxTime, "", "")),
		with(record(0, strings.Repeat("k", api.MaxKey), "")),
		with(record(0, "", strings.Repeat("v", api.MaxValue))),
		with(record(-3, "", ""), record(0, strings.Repeat("k", api.MaxKey), strings.Repeat("v", api.MaxValue))),
		{Base: api.MaxOffset - 1, Records: make([]api.Record, 1)},
		{Base: api.MaxOffset - api.MaxRecords, Records: make([]api.Record, api.MaxRecords)},
		{Epoch: api.MaxEpoch, Records: make([]api.Record, 1)},
		batch(0x1234567890, 0x12345678, 20),
		batch(300, 0, api.MaxRecords),
		full(),
	}
}

// wrong is a batch that may not be, and why.
type wrong struct {
	b    api.Batch
	want error
}

func wrongs() []wrong {
	behindGood := func(r api.Record) api.Batch { return with(record(1, "a", "b"), r) }
	return []wrong{
		{api.Batch{}, api.ErrMany},
		{api.Batch{Base: 3, Epoch: 1, Records: []api.Record{}}, api.ErrMany},
		{with(make([]api.Record, api.MaxRecords+1)...), api.ErrMany},
		{with(make([]api.Record, 1<<17)...), api.ErrMany},
		{api.Batch{Base: -1, Epoch: -1}, api.ErrMany},
		{api.Batch{Base: -1, Epoch: -1, Records: make([]api.Record, api.MaxRecords+1)}, api.ErrMany},
		{batch(-1, 0, 1), api.ErrRange},
		{batch(-1, 0, 2), api.ErrRange},
		{batch(math.MinInt64, 0, 1), api.ErrRange},
		{batch(api.MaxOffset, 0, 1), api.ErrRange},
		{batch(api.MaxOffset+1, 0, 1), api.ErrRange},
		{batch(math.MaxInt64, 0, 1), api.ErrRange},
		{batch(api.MaxOffset-1, 0, 2), api.ErrRange},
		{batch(api.MaxOffset-api.MaxRecords+1, 0, api.MaxRecords), api.ErrRange},
		{batch(0, -1, 1), api.ErrRange},
		{batch(0, math.MinInt, 1), api.ErrRange},
		{batch(0, api.MaxEpoch+1, 1), api.ErrRange},
		{batch(0, math.MaxInt, 1), api.ErrRange},
		{with(record(api.MaxTime+1, "", "")), api.ErrRange},
		{with(record(-api.MaxTime-1, "", "")), api.ErrRange},
		{behindGood(record(api.MaxTime+1, "", "")), api.ErrRange},
		{behindGood(record(-api.MaxTime-1, "", "")), api.ErrRange},
		{behindGood(record(math.MaxInt64, "", "")), api.ErrRange},
		{behindGood(record(math.MinInt64, "", "")), api.ErrRange},
		{with(record(0, strings.Repeat("k", api.MaxKey+1), "")), api.ErrRange},
		{behindGood(record(0, strings.Repeat("k", api.MaxKey+1), "")), api.ErrRange},
		{with(record(0, "", strings.Repeat("v", api.MaxValue+1))), api.ErrRange},
		{behindGood(record(0, "", strings.Repeat("v", api.MaxValue+1))), api.ErrRange},
	}
}

// P3.1

func TestValid(t *testing.T) {
	for i, b := range rights() {
		if err := rec.Valid(b); err != nil {
			t.Errorf("right %d: %v", i, err)
		}
	}
	for i, x := range wrongs() {
		if err := rec.Valid(x.b); err != x.want {
			t.Errorf("wrong %d: %v, not %v", i, err, x.want)
		}
	}
}

func TestNext(t *testing.T) {
	for _, x := range []struct {
		b    api.Batch
		want int64
	}{
		{api.Batch{}, 0},
		{api.Batch{Base: 9}, 9},
		{batch(7, 3, 1), 8},
		{batch(7, 3, 5), 12},
		{batch(-5, 0, 3), -2},
		{batch(api.MaxOffset-1, 0, 1), api.MaxOffset},
		{batch(api.MaxOffset, 0, api.MaxRecords+1), api.MaxOffset + api.MaxRecords + 1},
	} {
		if got := rec.Next(x.b); got != x.want {
			t.Errorf("%d with %d: %d, not %d", x.b.Base, len(x.b.Records), got, x.want)
		}
	}
}

func TestTime(t *testing.T) {
	for _, x := range []struct {
		times []int64
		want  int64
	}{
		{nil, 0},
		{[]int64{0}, 0},
		{[]int64{-4}, -4},
		{[]int64{9, 3, 5}, 9},
		{[]int64{3, 9, 5}, 9},
		{[]int64{3, 5, 9}, 9},
		{[]int64{-5, -3, -9}, -3},
		{[]int64{-api.MaxTime, -api.MaxTime}, -api.MaxTime},
		{[]int64{api.MaxTime, -api.MaxTime, 0}, api.MaxTime},
		{[]int64{math.MinInt64}, math.MinInt64},
		{[]int64{math.MinInt64, math.MaxInt64}, math.MaxInt64},
	} {
		b := api.Batch{Base: 50, Epoch: 60}
		for _, time := range x.times {
			b.Records = append(b.Records, record(time, "", ""))
		}
		if got := rec.Time(b); got != x.want {
			t.Errorf("%v: %d, not %d", x.times, got, x.want)
		}
	}
}

func TestSame(t *testing.T) {
	a := batch(3, 4, 5)
	if !rec.Same(a, a) || !rec.Same(a, batch(3, 4, 5)) {
		t.Error("not the same as itself")
	}
	for name, change := range map[string]func(b *api.Batch){
		"base":        func(b *api.Batch) { b.Base++ },
		"epoch":       func(b *api.Batch) { b.Epoch-- },
		"fewer":       func(b *api.Batch) { b.Records = b.Records[:4] },
		"more":        func(b *api.Batch) { b.Records = append(b.Records, api.Record{}) },
		"time":        func(b *api.Batch) { b.Records[0].Time++ },
		"last time":   func(b *api.Batch) { b.Records[4].Time = -b.Records[4].Time },
		"key":         func(b *api.Batch) { b.Records[2].Key[1] = 'x' },
		"value":       func(b *api.Batch) { b.Records[4].Value[1] = 'x' },
		"longer key":  func(b *api.Batch) { b.Records[0].Key = []byte{0} },
		"cut value":   func(b *api.Batch) { b.Records[1].Value = b.Records[1].Value[:9] },
		"turned":      func(b *api.Batch) { b.Records[0], b.Records[1] = b.Records[1], b.Records[0] },
		"other bound": func(b *api.Batch) { b.Records[1].Key, b.Records[1].Value = []byte("kv"), b.Records[1].Value[1:] },
	} {
		b := batch(3, 4, 5)
		change(&b)
		if rec.Same(a, b) || rec.Same(b, a) {
			t.Errorf("%s: the same", name)
		}
	}
}

func TestSameOfNilAndEmpty(t *testing.T) {
	if !rec.Same(api.Batch{}, api.Batch{Records: []api.Record{}}) {
		t.Error("of records")
	}
	if !rec.Same(with(api.Record{}), with(record(0, "", ""))) || !rec.Same(with(record(0, "", "")), with(api.Record{})) {
		t.Error("of bytes")
	}
	if rec.Same(api.Batch{}, with(api.Record{})) {
		t.Error("a record is none")
	}
}

// spoil writes into all that b has, and behind it.
func spoil(b api.Batch) {
	for i := range b.Records {
		spoilRecord(&b.Records[i])
	}
	_ = append(b.Records, record(77, "spoilt", "spoilt"))
}

func spoilRecord(r *api.Record) {
	r.Time = 88
	for _, s := range [][]byte{r.Key, r.Value} {
		for i := range s[:cap(s)] {
			s[:cap(s)][i] = '!'
		}
	}
	r.Key, r.Value = nil, nil
}

func TestClone(t *testing.T) {
	for i, b := range append(rights(), api.Batch{}, api.Batch{Base: -4, Epoch: -5, Records: batch(0, 0, api.MaxRecords+1).Records}) {
		first, second, third := rec.Clone(b), rec.Clone(b), rec.Clone(b)
		if !rec.Same(first, b) {
			t.Errorf("%d: another one", i)
		}
		spoil(first)
		if !rec.Same(second, b) || !rec.Same(second, third) {
			t.Errorf("%d: it shares memory with its clone", i)
		}
		spoil(b)
		if !rec.Same(second, third) {
			t.Errorf("%d: a clone shares memory with it", i)
		}
	}
}

func TestCloneOfPieces(t *testing.T) {
	text := []byte("abcdef")
	b := with(api.Record{Key: text[0:2], Value: text[1:4]}, api.Record{Key: text[1:4]})
	c := rec.Clone(b)
	spoilRecord(&c.Records[0])
	if string(text) != "abcdef" || string(c.Records[1].Key) != "bcd" {
		t.Error(string(text), string(c.Records[1].Key))
	}
}

// told is a record that was told, with its offset.
type told struct {
	offset int64
	r      api.Record
}

// list is what Each has to tell of l.
func list(l ...api.Batch) []told {
	var all []told
	for _, b := range l {
		for i, r := range rec.Clone(b).Records {
			all = append(all, told{b.Base + int64(i), r})
		}
	}
	return all
}

// isNext holds the record that is told as number n against want.
func isNext(t *testing.T, want []told, n int, offset int64, r api.Record) {
	t.Helper()
	if n >= len(want) || offset != want[n].offset || !rec.Same(with(r), with(want[n].r)) {
		t.Fatalf("number %d is told as %d: %v", n, offset, r)
	}
}

func TestEach(t *testing.T) {
	for _, l := range [][]api.Batch{
		{},
		{{}},
		{{Base: 5}, {}},
		{batch(7, 3, 1)},
		{batch(7, 3, 5), batch(12, 3, 2)},
		{batch(7, 3, 3), {Base: 10}, batch(10, 4, 3)},
		{batch(9, 1, 2), batch(3, 0, 2), batch(9, 1, 2)},
		{batch(-3, -1, 5), batch(api.MaxOffset, 0, api.MaxRecords+1)},
	} {
		want := list(l...)
		each := rec.Each(l...)
		for range 3 {
			n := 0
			for offset, r := range each {
				isNext(t, want, n, offset, r)
				n++
			}
			if n != len(want) {
				t.Fatalf("%d of %d told", n, len(want))
			}
		}
	}
}

func TestEachLeftEarly(t *testing.T) {
	l := []api.Batch{batch(7, 3, 3), batch(10, 3, 4)}
	want := list(l...)
	each := rec.Each(l...)
	for left := range len(want) {
		n := 0
		for offset, r := range each {
			isNext(t, want, n, offset, r)
			if n == left {
				break
			}
			n++
		}
		if n != left {
			t.Fatalf("%d told, left at %d", n, left)
		}
	}
}

func TestEachWithinItself(t *testing.T) {
	each := rec.Each(batch(7, 3, 3), batch(10, 3, 2))
	want := list(batch(7, 3, 3), batch(10, 3, 2))
	outer := 0
	for offset, r := range each {
		isNext(t, want, outer, offset, r)
		outer++
		inner := 0
		for offset, r := range each {
			isNext(t, want, inner, offset, r)
			if inner++; inner == outer {
				break
			}
		}
	}
	if outer != len(want) {
		t.Errorf("%d of %d told", outer, len(want))
	}
}

func TestEachIsWrittenInto(t *testing.T) {
	l := []api.Batch{batch(7, 3, 5), batch(12, 3, 3)}
	want := list(l...)
	each, other := rec.Each(l...), rec.Each(l...)
	for range 3 {
		n := 0
		for offset, r := range each {
			isNext(t, want, n, offset, r)
			spoilRecord(&r)
			n++
		}
	}
	if !rec.Same(l[0], batch(7, 3, 5)) || !rec.Same(l[1], batch(12, 3, 3)) {
		t.Error("what was handed in is changed")
	}
	n := 0
	for offset, r := range other {
		isNext(t, want, n, offset, r)
		n++
	}
}

func TestEachKeepsNothing(t *testing.T) {
	l := []api.Batch{batch(7, 3, 5), batch(12, 3, 3)}
	want := list(l...)
	each := rec.Each(l...)
	spoil(l[0])
	l[1] = batch(100, 0, 64)
	n := 0
	for offset, r := range each {
		isNext(t, want, n, offset, r)
		n++
	}
	if n != len(want) {
		t.Errorf("%d of %d told", n, len(want))
	}
}
