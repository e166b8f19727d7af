package epoch_test

import (
	"math"
	"slices"
	"testing"

	"cordwood/api"
)

// P9.2: Last, At, End, Span

func TestLast(t *testing.T) {
	e := made(t)
	if last, is := e.Last(); last != (api.Pair{}) || is {
		t.Error(last, is)
	}
	for _, l := range [][]api.Pair{{p(0, 0)}, {p(1, 5), p(3, 10)}, many(api.MaxEpochs)} {
		if last, is := made(t, l...).Last(); last != l[len(l)-1] || !is {
			t.Error(last, is)
		}
	}
	e = three(t)
	e.CutEnd(0)
	if last, is := e.Last(); last != (api.Pair{}) || is {
		t.Error(last, is)
	}
}

func TestAt(t *testing.T) {
	e := three(t)
	for offset, want := range map[int64]int{
		5: 1, 6: 1, 9: 1, 10: 3, 11: 3, 19: 3,
		20: 7, 21: 7, api.MaxOffset: 7, api.MaxOffset + 1: 7, math.MaxInt64: 7,
	} {
		if got, is := e.At(offset); got != want || !is {
			t.Errorf("At(%d) = %d, %v, not %d", offset, got, is, want)
		}
	}
	for _, offset := range []int64{math.MinInt64, -1, 0, 4} {
		if got, is := e.At(offset); got != 0 || is {
			t.Errorf("At(%d) = %d, %v", offset, got, is)
		}
	}
	zero := made(t, p(0, 0))
	if got, is := zero.At(0); got != 0 || !is {
		t.Error(got, is)
	}
	if got, is := zero.At(-1); got != 0 || is {
		t.Error(got, is)
	}
	none := made(t)
	for _, offset := range []int64{math.MinInt64, -1, 0, 7, math.MaxInt64} {
		if got, is := none.At(offset); got != 0 || is {
			t.Errorf("of none: At(%d) = %d, %v", offset, got, is)
		}
	}
}

func TestEndExample(t *testing.T) {
	e := made(t, p(1, 0), p(3, 10))
	if got, end, is := e.End(2, 20); got != 1 || end != 10 || !is {
		t.Error(got, end, is)
	}
}

func TestEnd(t *testing.T) {
	e := three(t)
	for _, end := range []int64{20, 33, 0, 7, api.MaxOffset, math.MaxInt64, -1, math.MinInt64} {
		for _, x := range []struct {
			epoch, want int
			end         int64
		}{{1, 1, 10}, {2, 1, 10}, {3, 3, 20}, {4, 3, 20}, {6, 3, 20}, {7, 7, end}, {8, 7, end}, {api.MaxEpoch, 7, end}, {api.MaxEpoch + 1, 7, end}, {math.MaxInt, 7, end}} {
			if got, at, is := e.End(x.epoch, end); got != x.want || at != x.end || !is {
				t.Errorf("End(%d, %d) = %d, %d, %v, not %d, %d", x.epoch, end, got, at, is, x.want, x.end)
			}
		}
		for _, ahead := range []int{0, -1, math.MinInt} {
			if got, at, is := e.End(ahead, end); got != 0 || at != 0 || is {
				t.Errorf("End(%d, %d) = %d, %d, %v", ahead, end, got, at, is)
			}
		}
		if got, at, is := made(t).End(5, end); got != 0 || at != 0 || is {
			t.Errorf("of none: End(5, %d) = %d, %d, %v", end, got, at, is)
		}
		if got, at, is := made(t, p(0, 4)).End(0, end); got != 0 || at != end || !is {
			t.Errorf("of epoch 0: End(0, %d) = %d, %d, %v", end, got, at, is)
		}
	}
}

func TestSpan(t *testing.T) {
	e := three(t)
	for _, x := range []struct {
		from, to int64
		want     []api.Pair
	}{
		{math.MinInt64, 0, nil}, {-5, 5, nil}, {0, 5, nil}, {4, 5, nil}, // all ahead of the first
		{-5, 6, []api.Pair{p(1, 5)}}, {0, 6, []api.Pair{p(1, 5)}}, {4, 6, []api.Pair{p(1, 5)}}, // from ahead of the first
		{0, 11, []api.Pair{p(1, 5), p(3, 10)}},
		{math.MinInt64, math.MaxInt64, []api.Pair{p(1, 5), p(3, 10), p(7, 20)}}, // the whole
		{5, 21, []api.Pair{p(1, 5), p(3, 10), p(7, 20)}},
		{5, 6, []api.Pair{p(1, 5)}}, {9, 10, []api.Pair{p(1, 9)}}, {10, 11, []api.Pair{p(3, 10)}}, {20, 21, []api.Pair{p(7, 20)}}, // one offset
		{7, 9, []api.Pair{p(1, 7)}}, {7, 10, []api.Pair{p(1, 7)}}, {7, 11, []api.Pair{p(1, 7), p(3, 10)}}, {7, 12, []api.Pair{p(1, 7), p(3, 10)}},
		{10, 20, []api.Pair{p(3, 10)}}, {12, 20, []api.Pair{p(3, 12)}}, {12, 21, []api.Pair{p(3, 12), p(7, 20)}}, {6, 30, []api.Pair{p(1, 6), p(3, 10), p(7, 20)}},
		{30, 40, []api.Pair{p(7, 30)}},
		{api.MaxOffset, api.MaxOffset + 1, []api.Pair{p(7, api.MaxOffset)}},
		{api.MaxOffset + 9, math.MaxInt64, []api.Pair{p(7, api.MaxOffset+9)}}, // the last one goes on
		{7, 7, nil}, {10, 10, nil}, {20, 20, nil}, {0, 0, nil}, // from not below to
		{9, 7, nil}, {10, 9, nil}, {21, 20, nil}, {30, 5, nil}, {math.MaxInt64, math.MinInt64, nil}, {math.MaxInt64, math.MaxInt64, nil},
	} {
		if got := e.Span(x.from, x.to); !slices.Equal(got, x.want) {
			t.Errorf("Span(%d, %d): %v, not %v", x.from, x.to, got, x.want)
		}
		if got := made(t).Span(x.from, x.to); len(got) > 0 {
			t.Errorf("of none: Span(%d, %d): %v", x.from, x.to, got)
		}
	}
	has(t, e, p(1, 5), p(3, 10), p(7, 20))
}

func TestSpanIsNewMemory(t *testing.T) {
	e := three(t)
	for _, x := range []struct{ from, to int64 }{{0, 100}, {5, 21}, {7, 9}, {7, 11}, {12, 21}, {0, 3}, {9, 9}} {
		first, second := e.Span(x.from, x.to), e.Span(x.from, x.to)
		want := slices.Clone(second)
		spoil(first)
		if !slices.Equal(second, want) {
			t.Error("two answers share memory:", second)
		}
		_ = append(second, spare, spare)
		has(t, e, p(1, 5), p(3, 10), p(7, 20))
	}
	part := e.Span(7, 100)
	e.CutStart(8)
	e.Begin(9, 20)
	if !slices.Equal(part, []api.Pair{p(1, 7), p(3, 10), p(7, 20)}) {
		t.Error("a later call changes what was handed out:", part)
	}
}

// P9.3

func TestHas(t *testing.T) {
	e := three(t)
	for _, x := range []struct {
		l          []api.Pair
		end, whole int64
	}{
		{[]api.Pair{p(1, 5)}, 6, 30},
		{[]api.Pair{p(1, 5)}, 10, 30}, // up to where the next one begins
		{[]api.Pair{p(1, 7)}, 9, 30},
		{[]api.Pair{p(1, 9)}, 10, 30},
		{[]api.Pair{p(3, 10)}, 11, 30},
		{[]api.Pair{p(3, 10)}, 20, 30},
		{[]api.Pair{p(3, 13)}, 17, 30},
		{[]api.Pair{p(7, 20)}, 21, 30}, // the last one goes on
		{[]api.Pair{p(7, 20)}, 30, 30},
		{[]api.Pair{p(7, 29)}, 30, 30},
		{[]api.Pair{p(1, 5), p(3, 10)}, 15, 30},
		{[]api.Pair{p(1, 9), p(3, 10)}, 20, 30},
		{[]api.Pair{p(3, 12), p(7, 20)}, 25, 30},
		{[]api.Pair{p(1, 5), p(3, 10), p(7, 20)}, 30, 30}, // the whole
		{[]api.Pair{p(1, 6), p(3, 10), p(7, 20)}, 21, 30},
		{[]api.Pair{p(1, 5)}, 8, 8}, // of a log that ends ahead of what starts here
		{[]api.Pair{p(3, 12)}, 15, 15},
		{[]api.Pair{p(7, api.MaxOffset)}, api.MaxOffset + 1, api.MaxOffset + 1},
		{[]api.Pair{p(7, 20)}, math.MaxInt64, math.MaxInt64},
	} {
		if !e.Has(x.l, x.end, x.whole) {
			t.Errorf("it has not %v to %d of %d", x.l, x.end, x.whole)
		}
	}
}

func TestHasNot(t *testing.T) {
	e := three(t)
	for _, x := range []struct {
		l          []api.Pair
		end, whole int64
	}{
		{nil, 10, 30}, {nil, 0, 0}, // no pair
		{[]api.Pair{p(1, 7)}, 7, 30}, // the last start is not below end
		{[]api.Pair{p(1, 7)}, 6, 30},
		{[]api.Pair{p(1, 5)}, 0, 30},
		{[]api.Pair{p(1, 5)}, -1, 30},
		{[]api.Pair{p(1, 5)}, math.MinInt64, 30},
		{[]api.Pair{p(1, 5), p(3, 10)}, 10, 30},
		{[]api.Pair{p(1, 5), p(3, 10)}, 9, 30},
		{[]api.Pair{p(1, 7), p(3, 15)}, 9, 30},
		{[]api.Pair{p(7, 20)}, 31, 30}, // end is above whole
		{[]api.Pair{p(1, 5)}, 8, 7},
		{[]api.Pair{p(1, 5)}, 8, 0},
		{[]api.Pair{p(1, 5)}, 8, -1},
		{[]api.Pair{p(7, 20)}, math.MaxInt64, math.MaxInt64 - 1},
		{[]api.Pair{p(1, 4)}, 10, 30}, // from ahead of the first
		{[]api.Pair{p(1, 0)}, 10, 30},
		{[]api.Pair{p(0, 0), p(1, 5)}, 10, 30},
		{[]api.Pair{p(1, 5)}, 11, 30}, // up to behind where the next one begins
		{[]api.Pair{p(1, 9)}, 11, 30},
		{[]api.Pair{p(3, 10)}, 21, 30},
		{[]api.Pair{p(1, 5)}, 30, 30},
		{[]api.Pair{p(3, 9)}, 15, 30}, // from ahead of where it begins
		{[]api.Pair{p(7, 19)}, 30, 30},
		{[]api.Pair{p(3, 5)}, 30, 30},
		{[]api.Pair{p(1, 10)}, 15, 30}, // another one has these
		{[]api.Pair{p(7, 10)}, 15, 30},
		{[]api.Pair{p(3, 20)}, 25, 30},
		{[]api.Pair{p(2, 5)}, 10, 30}, // one that is not here
		{[]api.Pair{p(0, 5)}, 10, 30},
		{[]api.Pair{p(2, 10)}, 20, 30},
		{[]api.Pair{p(8, 20)}, 30, 30},
		{[]api.Pair{p(8, 25)}, 30, 30},
		{[]api.Pair{p(1, 5), p(3, 9)}, 15, 30}, // the first, or the second, begins elsewhere
		{[]api.Pair{p(1, 5), p(3, 11)}, 15, 30},
		{[]api.Pair{p(1, 5), p(2, 8)}, 10, 30},
		{[]api.Pair{p(1, 5), p(2, 10)}, 15, 30},
		{[]api.Pair{p(1, 5), p(7, 20)}, 30, 30}, // one between is not there
		{[]api.Pair{p(1, 5), p(7, 10)}, 30, 30},
		{[]api.Pair{p(1, 5), p(3, 10), p(8, 20)}, 30, 30},
		{[]api.Pair{p(1, 5), p(3, 10), p(7, 21)}, 30, 30},
		{[]api.Pair{p(1, 5), p(3, 10), p(7, 19)}, 30, 30},
		{[]api.Pair{p(1, 5), p(3, 10), p(7, 20), p(8, 25)}, 30, 30},
		{[]api.Pair{p(1, 4), p(3, 10), p(7, 20)}, 30, 30},
	} {
		if e.Has(x.l, x.end, x.whole) {
			t.Errorf("it has %v to %d of %d", x.l, x.end, x.whole)
		}
	}
}

func TestHasOfWhatNewRefuses(t *testing.T) {
	e := three(t)
	for _, l := range [][]api.Pair{
		{p(1, 7), p(1, 8)}, // both lie within 1
		{p(1, 8), p(1, 7)},
		{p(1, 7), p(1, 7)},
		{p(3, 10), p(1, 5)},
		{p(1, 5), p(3, 10), p(3, 12)},
		{p(-1, 5)}, {p(1, -5)}, {p(api.MaxEpoch+1, 25)},
		{p(7, api.MaxOffset+1)},
	} {
		if e.Has(l, math.MaxInt64, math.MaxInt64) || e.Has(l, 9, 30) || e.Has(l, 15, 30) {
			t.Errorf("it has %v", l)
		}
	}
	full := made(t, many(api.MaxEpochs)...)
	if !full.Has(many(api.MaxEpochs), 600, 600) {
		t.Error("a lineage of MaxEpochs has not itself")
	}
	if full.Has(many(api.MaxEpochs+1), 600, 600) {
		t.Error("it has more than MaxEpochs")
	}
}

func TestHasOfNone(t *testing.T) {
	e := made(t)
	for _, l := range [][]api.Pair{nil, {}, {p(0, 0)}, {p(1, 5)}, {p(1, 5), p(2, 6)}} {
		for _, end := range []int64{-1, 0, 1, 10, math.MaxInt64} {
			if e.Has(l, end, end) {
				t.Errorf("it has %v to %d", l, end)
			}
		}
	}
}

func TestHasLeavesWhatIsHandedIn(t *testing.T) {
	e := three(t)
	l := withSpare(p(1, 6), p(3, 10))
	for range 2 {
		if !e.Has(l, 15, 30) {
			t.Error("it has not", l)
		}
	}
	if !slices.Equal(l, []api.Pair{p(1, 6), p(3, 10)}) || !spareIsWhole(l) {
		t.Error("what was handed in is changed:", l)
	}
	has(t, e, p(1, 5), p(3, 10), p(7, 20))
	behind := append([]api.Pair{p(1, 6)}, p(3, 10))[:1] // what lies behind is not of the list
	if !e.Has(behind, 10, 30) || e.Has(behind, 15, 30) {
		t.Error("what lies behind the list counts")
	}
}
