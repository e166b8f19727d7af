package epoch_test

import (
	"math"
	"slices"
	"testing"

	"cordwood/api"
	"cordwood/epoch"
)

func p(epoch int, start int64) api.Pair { return api.Pair{Epoch: epoch, Start: start} }

func made(t *testing.T, l ...api.Pair) *epoch.Line {
	t.Helper()
	e, err := epoch.New(l...)
	if err != nil || e == nil {
		t.Fatalf("New(%v): %v, %v", l, e, err)
	}
	return e
}

// has holds all that a lineage tells of its pairs against them.
func has(t *testing.T, e *epoch.Line, want ...api.Pair) {
	t.Helper()
	if got := e.Pairs(); !slices.Equal(got, want) {
		t.Errorf("pairs %v, not %v", got, want)
	}
	last, is := e.Last()
	if is != (len(want) > 0) || is && last != want[len(want)-1] || !is && last != (api.Pair{}) {
		t.Errorf("of %v the last one: %v, %v", want, last, is)
	}
}

// many is n pairs: epochs from 1, starts from 0, each a second one.
func many(n int) []api.Pair {
	var l []api.Pair
	for i := range n {
		l = append(l, p(2*i+1, int64(2*i)))
	}
	return l
}

// withSpare is l with pairs in its memory behind its length.
func withSpare(l ...api.Pair) []api.Pair {
	return append(slices.Clone(l), spare, spare, spare)[:len(l)]
}

var spare = p(-7, -7)

func spareIsWhole(l []api.Pair) bool {
	return slices.Equal(l[len(l):len(l)+3], []api.Pair{spare, spare, spare})
}

// spoil writes into a list that was handed out, and behind it.
func spoil(l []api.Pair) {
	l = l[:cap(l)]
	for i := range l {
		l[i] = p(77, 77)
	}
	_ = append(l[:0], spare)
}

// three is 1 from 5, 3 from 10, 7 from 20.
func three(t *testing.T) *epoch.Line { return made(t, p(1, 5), p(3, 10), p(7, 20)) }

// P9.1

func TestNew(t *testing.T) {
	for _, l := range [][]api.Pair{
		nil,
		{},
		{p(0, 0)},
		{p(api.MaxEpoch, api.MaxOffset)},
		{p(0, api.MaxOffset)},
		{p(api.MaxEpoch, 0)},
		{p(0, 0), p(1, 1)},
		{p(0, 0), p(api.MaxEpoch, api.MaxOffset)},
		{p(1, 0), p(3, 10)},
		{p(api.MaxEpoch-1, api.MaxOffset-1), p(api.MaxEpoch, api.MaxOffset)},
		many(api.MaxEpochs - 1),
		many(api.MaxEpochs),
	} {
		has(t, made(t, l...), l...)
	}
}

func TestNewRefuses(t *testing.T) {
	for _, x := range []struct {
		l    []api.Pair
		want error
	}{
		{many(api.MaxEpochs + 1), api.ErrMany},
		{many(1000), api.ErrMany},
		{[]api.Pair{p(-1, 0)}, api.ErrRange},
		{[]api.Pair{p(math.MinInt, 0)}, api.ErrRange},
		{[]api.Pair{p(api.MaxEpoch+1, 0)}, api.ErrRange},
		{[]api.Pair{p(math.MaxInt, 0)}, api.ErrRange},
		{[]api.Pair{p(0, -1)}, api.ErrRange},
		{[]api.Pair{p(0, math.MinInt64)}, api.ErrRange},
		{[]api.Pair{p(0, api.MaxOffset+1)}, api.ErrRange},
		{[]api.Pair{p(0, math.MaxInt64)}, api.ErrRange},
		{[]api.Pair{p(1, 5), p(2, 6), p(api.MaxEpoch+1, 7)}, api.ErrRange},
		{[]api.Pair{p(1, 5), p(2, 6), p(3, api.MaxOffset+1)}, api.ErrRange},
		{[]api.Pair{p(-1, 5), p(2, 6), p(3, 7)}, api.ErrRange},
		{[]api.Pair{p(1, 5), p(1, 6)}, api.ErrShape},
		{[]api.Pair{p(2, 5), p(1, 6)}, api.ErrShape},
		{[]api.Pair{p(1, 5), p(2, 5)}, api.ErrShape},
		{[]api.Pair{p(1, 5), p(2, 4)}, api.ErrShape},
		{[]api.Pair{p(1, 5), p(1, 5)}, api.ErrShape},
		{[]api.Pair{p(0, 0), p(0, 1)}, api.ErrShape},
		{[]api.Pair{p(0, 0), p(1, 0)}, api.ErrShape},
		{[]api.Pair{p(1, 5), p(3, 7), p(2, 9)}, api.ErrShape},
		{[]api.Pair{p(1, 5), p(3, 7), p(4, 7)}, api.ErrShape},
		{[]api.Pair{p(3, 5), p(2, 7), p(4, 9)}, api.ErrShape},
		{[]api.Pair{p(1, 5), p(2, 3), p(3, 9)}, api.ErrShape},
	} {
		if e, err := epoch.New(x.l...); e != nil || err != x.want {
			t.Errorf("New(%v): %v, not %v", x.l, err, x.want)
		}
	}
}

func TestNewTellsTheFirstError(t *testing.T) {
	for _, x := range []struct {
		l    []api.Pair
		want error
	}{
		{make([]api.Pair, api.MaxEpochs+1), api.ErrMany},                    // nor do they rise
		{append(many(api.MaxEpochs), p(-1, -1)), api.ErrMany},               // nor is it right
		{[]api.Pair{p(5, 5), p(5, 5), p(6, -1)}, api.ErrRange},              // the first two do not rise
		{[]api.Pair{p(5, 5), p(4, 9), p(api.MaxEpoch+1, 10)}, api.ErrRange}, // nor these
		{make([]api.Pair, api.MaxEpochs), api.ErrShape},
	} {
		if e, err := epoch.New(x.l...); e != nil || err != x.want {
			t.Errorf("New(%v): %v, not %v", x.l, err, x.want)
		}
	}
}

func TestBegin(t *testing.T) {
	e := made(t)
	for i, x := range []struct {
		epoch int
		start int64
		want  error
		line  []api.Pair
	}{
		{2, 5, nil, []api.Pair{p(2, 5)}},
		{1, 9, api.ErrFenced, []api.Pair{p(2, 5)}}, // below the last one
		{0, 0, api.ErrFenced, []api.Pair{p(2, 5)}},
		{2, 5, nil, []api.Pair{p(2, 5)}}, // the last one itself
		{2, 4, nil, []api.Pair{p(2, 5)}},
		{2, 6, nil, []api.Pair{p(2, 5)}},
		{3, 4, api.ErrShape, []api.Pair{p(2, 5)}},              // above it, but a start below
		{3, 5, nil, []api.Pair{p(3, 5)}},                       // the same start
		{2, 6, api.ErrFenced, []api.Pair{p(3, 5)}},             // the one whose place was taken
		{4, 6, nil, []api.Pair{p(3, 5), p(4, 6)}},              // a start above
		{9, 5, api.ErrShape, []api.Pair{p(3, 5), p(4, 6)}},     // a start of another one
		{3, 7, api.ErrFenced, []api.Pair{p(3, 5), p(4, 6)}},    // one that is there, but not the last one
		{5, 20, nil, []api.Pair{p(3, 5), p(4, 6), p(5, 20)}},   // and on
		{9, 20, nil, []api.Pair{p(3, 5), p(4, 6), p(9, 20)}},   // the place of just the last one
		{10, 20, nil, []api.Pair{p(3, 5), p(4, 6), p(10, 20)}}, // once more
		{10, 0, nil, []api.Pair{p(3, 5), p(4, 6), p(10, 20)}},  // the last one itself
		{9, 20, api.ErrFenced, []api.Pair{p(3, 5), p(4, 6), p(10, 20)}},
		{api.MaxEpoch, api.MaxOffset, nil, []api.Pair{p(3, 5), p(4, 6), p(10, 20), p(api.MaxEpoch, api.MaxOffset)}},
		{api.MaxEpoch, 7, nil, []api.Pair{p(3, 5), p(4, 6), p(10, 20), p(api.MaxEpoch, api.MaxOffset)}},
	} {
		if err := e.Begin(x.epoch, x.start); err != x.want {
			t.Errorf("%d: Begin(%d, %d): %v, not %v", i, x.epoch, x.start, err, x.want)
		}
		has(t, e, x.line...)
	}
}

func TestBeginOfTheFirstPair(t *testing.T) {
	for _, x := range []api.Pair{p(0, 0), p(0, api.MaxOffset), p(api.MaxEpoch, 0), p(api.MaxEpoch, api.MaxOffset), p(5, 6)} {
		e := made(t)
		if err := e.Begin(x.Epoch, x.Start); err != nil {
			t.Errorf("Begin of %v: %v", x, err)
		}
		has(t, e, x)
	}
	e := three(t)
	e.CutEnd(0)
	if err := e.Begin(0, 3); err != nil { // nothing of what was cut counts
		t.Error(err)
	}
	has(t, e, p(0, 3))
}

func TestBeginOfWhatIsNotRight(t *testing.T) {
	wrong := []api.Pair{
		p(-1, 9), p(math.MinInt, 9), p(api.MaxEpoch+1, 9), p(math.MaxInt, 9),
		p(9, -1), p(9, math.MinInt64), p(9, api.MaxOffset+1), p(9, math.MaxInt64),
		p(-1, -1), p(api.MaxEpoch+1, api.MaxOffset+1),
		p(0, -1), p(6, api.MaxOffset+1), // below the last one, too
		p(7, -1), p(7, api.MaxOffset+1), // the last one itself
		p(api.MaxEpoch+1, 5), // a start below, too
	}
	for _, l := range [][]api.Pair{nil, {p(7, 7)}, many(api.MaxEpochs)} {
		e := made(t, l...)
		for _, x := range wrong {
			if err := e.Begin(x.Epoch, x.Start); err != api.ErrRange {
				t.Errorf("Begin of %v: %v", x, err)
			}
		}
		has(t, e, l...)
	}
}

func TestBeginTellsTheFirstError(t *testing.T) {
	e := made(t, many(api.MaxEpochs)...) // the last one is 511 from 510
	for _, x := range []struct {
		epoch int
		start int64
		want  error
	}{
		{510, 0, api.ErrFenced},   // a start below, and no room
		{510, 510, api.ErrFenced}, // no room
		{512, 509, api.ErrShape},  // no room
		{512, 0, api.ErrShape},
		{511, 0, nil}, // of the last one itself nothing else counts
		{511, 510, nil},
		{511, 600, nil},
	} {
		if err := e.Begin(x.epoch, x.start); err != x.want {
			t.Errorf("Begin(%d, %d): %v, not %v", x.epoch, x.start, err, x.want)
		}
	}
	has(t, e, many(api.MaxEpochs)...)
}

func TestBeginWhereThereAreMaxEpochs(t *testing.T) {
	e := made(t)
	for _, x := range many(api.MaxEpochs) {
		if err := e.Begin(x.Epoch, x.Start); err != nil {
			t.Fatal(x, err)
		}
	}
	has(t, e, many(api.MaxEpochs)...)
	for _, start := range []int64{510, 511, 512, api.MaxOffset} { // the first of them would take the last one's place
		if err := e.Begin(512, start); err != api.ErrMany {
			t.Errorf("Begin at %d: %v", start, err)
		}
	}
	has(t, e, many(api.MaxEpochs)...)
	e.CutEnd(510)
	if err := e.Begin(600, 508); err != nil { // there is room, and none more is needed
		t.Error(err)
	}
	if err := e.Begin(601, 509); err != nil { // the last one that has room
		t.Error(err)
	}
	if err := e.Begin(602, 510); err != api.ErrMany {
		t.Error(err)
	}
	has(t, e, append(many(api.MaxEpochs-2), p(600, 508), p(601, 509))...)
	e.CutStart(2)
	if err := e.Begin(602, 510); err != nil {
		t.Error(err)
	}
	if l := e.Pairs(); len(l) != api.MaxEpochs || l[0] != p(3, 2) || l[api.MaxEpochs-1] != p(602, 510) {
		t.Error(l)
	}
}

func TestNewKeepsNothingHandedIn(t *testing.T) {
	l := withSpare(p(1, 5), p(3, 10))
	e := made(t, l...)
	l[0] = p(9, 9)
	has(t, e, p(1, 5), p(3, 10))
	e.Begin(4, 11)
	e.Begin(5, 12)
	e.CutStart(7)
	e.CutEnd(11)
	e.Begin(8, 10)
	if !slices.Equal(l, []api.Pair{p(9, 9), p(3, 10)}) || !spareIsWhole(l) {
		t.Error("what was handed in is changed:", l)
	}
	empty := withSpare()
	e = made(t, empty...)
	e.Begin(4, 11)
	if !spareIsWhole(empty) {
		t.Error("what is behind an empty list is written")
	}
	one, two := made(t, withSpare(p(1, 5))...), made(t, withSpare(p(1, 5))...)
	one.Begin(2, 6)
	two.Begin(3, 7)
	has(t, one, p(1, 5), p(2, 6))
	has(t, two, p(1, 5), p(3, 7))
}

// P9.2: CutEnd, CutStart, Pairs; and Clone

func TestCutEnd(t *testing.T) {
	for offset, left := range map[int64]int{
		math.MinInt64: 0, -1: 0, 0: 0, 4: 0, 5: 0, // ahead of the first, and at it
		6: 1, 9: 1, 10: 1, // the second one: one ahead, at it
		11: 2, 19: 2, 20: 2,
		21: 3, 100: 3, api.MaxOffset: 3, api.MaxOffset + 1: 3, math.MaxInt64: 3,
	} {
		e := three(t)
		want := e.Pairs()[:left]
		e.CutEnd(offset)
		has(t, e, want...)
		e.CutEnd(offset)
		has(t, e, want...)
	}
}

func TestCutStart(t *testing.T) {
	whole := []api.Pair{p(1, 5), p(3, 10), p(7, 20)}
	for offset, want := range map[int64][]api.Pair{
		math.MinInt64: whole, -1: whole, 0: whole, 4: whole, 5: whole,
		6:                 {p(1, 6), p(3, 10), p(7, 20)},
		9:                 {p(1, 9), p(3, 10), p(7, 20)},
		10:                {p(3, 10), p(7, 20)},
		11:                {p(3, 11), p(7, 20)},
		19:                {p(3, 19), p(7, 20)},
		20:                {p(7, 20)},
		21:                {p(7, 21)},
		100:               {p(7, 100)},
		api.MaxOffset - 1: {p(7, api.MaxOffset-1)},
		api.MaxOffset:     {p(7, api.MaxOffset)},
		api.MaxOffset + 1: {p(7, api.MaxOffset)},
		math.MaxInt64:     {p(7, api.MaxOffset)},
	} {
		e := three(t)
		e.CutStart(offset)
		has(t, e, want...)
		e.CutStart(offset)
		has(t, e, want...)
		made(t, e.Pairs()...)
	}
}

func TestCutStartAroundMaxOffset(t *testing.T) {
	for _, x := range []struct {
		offset int64
		want   []api.Pair
	}{
		{api.MaxOffset - 1, []api.Pair{p(1, api.MaxOffset-1), p(2, api.MaxOffset)}},
		{api.MaxOffset, []api.Pair{p(2, api.MaxOffset)}},
		{api.MaxOffset + 1, []api.Pair{p(2, api.MaxOffset)}},
		{math.MaxInt64, []api.Pair{p(2, api.MaxOffset)}},
	} {
		e := made(t, p(1, 0), p(2, api.MaxOffset))
		e.CutStart(x.offset)
		has(t, e, x.want...)
	}
}

func TestCutsOfNothing(t *testing.T) {
	e := made(t)
	for _, offset := range []int64{math.MinInt64, -1, 0, 1, api.MaxOffset, math.MaxInt64} {
		e.CutEnd(offset)
		e.CutStart(offset)
		has(t, e)
	}
	e = three(t)
	e.CutEnd(5)
	e.CutStart(9)
	has(t, e)
	if err := e.Begin(1, 1); err != nil {
		t.Error(err)
	}
	has(t, e, p(1, 1))
}

func TestBeginBehindACut(t *testing.T) {
	e := three(t)
	e.CutEnd(20)
	if err := e.Begin(2, 30); err != api.ErrFenced { // the last one is 3
		t.Error(err)
	}
	if err := e.Begin(4, 15); err != nil {
		t.Error(err)
	}
	has(t, e, p(1, 5), p(3, 10), p(4, 15))
	e.CutStart(18)
	if err := e.Begin(5, 17); err != api.ErrShape { // the last one starts at 18
		t.Error(err)
	}
	if err := e.Begin(5, 18); err != nil {
		t.Error(err)
	}
	has(t, e, p(5, 18))
}

func TestPairsAreNewMemory(t *testing.T) {
	e := three(t)
	first, second := e.Pairs(), e.Pairs()
	spoil(first)
	has(t, e, p(1, 5), p(3, 10), p(7, 20))
	if !slices.Equal(second, []api.Pair{p(1, 5), p(3, 10), p(7, 20)}) {
		t.Error("two answers share memory:", second)
	}
	e.Begin(8, 30)
	e.CutStart(12)
	if !slices.Equal(second, []api.Pair{p(1, 5), p(3, 10), p(7, 20)}) {
		t.Error("a later call changes what was handed out:", second)
	}
	e.CutEnd(20)
	spoil(e.Pairs()) // there is room behind what is left
	has(t, e, p(3, 12))
	e.CutEnd(0)
	spoil(e.Pairs())
	one := append(e.Pairs(), p(1, 1))
	e.Begin(2, 2)
	has(t, e, p(2, 2))
	if one[0] != p(1, 1) {
		t.Error(one)
	}
}

func TestClone(t *testing.T) {
	e := three(t)
	c := e.Clone()
	has(t, c, p(1, 5), p(3, 10), p(7, 20))
	c.Begin(9, 20)
	c.CutStart(7)
	has(t, c, p(1, 7), p(3, 10), p(9, 20))
	has(t, e, p(1, 5), p(3, 10), p(7, 20))
	e.Begin(8, 30)
	e.CutStart(12)
	has(t, e, p(3, 12), p(7, 20), p(8, 30))
	has(t, c, p(1, 7), p(3, 10), p(9, 20))

	e = three(t)
	e.CutEnd(20) // there is room behind what is left
	a, b := e.Clone(), e.Clone()
	e.Begin(10, 100)
	a.Begin(20, 200)
	b.Begin(30, 300)
	has(t, e, p(1, 5), p(3, 10), p(10, 100))
	has(t, a, p(1, 5), p(3, 10), p(20, 200))
	has(t, b, p(1, 5), p(3, 10), p(30, 300))
	b.CutEnd(0)
	has(t, b)
	has(t, a, p(1, 5), p(3, 10), p(20, 200))

	none := made(t)
	c = none.Clone()
	c.Begin(1, 1)
	has(t, none)
	has(t, c, p(1, 1))
}
