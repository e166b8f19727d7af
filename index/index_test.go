package index_test

import (
	"math"
	"math/rand"
	"slices"
	"testing"

	"cordwood/api"
	"cordwood/index"
)

const (
	maxEvery = 1 << 20
	maxPos   = 1 << 30
)

// add is what a call of Add is given.
type add struct {
	offset, time int64
	pos, size    int
}

func made(t *testing.T, every int, adds ...add) *index.Index {
	t.Helper()
	x, err := index.New(every)
	if err != nil {
		t.Fatal(every, err)
	}
	for _, a := range adds {
		takes(t, x, a)
	}
	return x
}

func takes(t *testing.T, x *index.Index, a add) {
	t.Helper()
	if err := x.Add(a.offset, a.time, a.pos, a.size); err != nil {
		t.Fatalf("%v: %v", a, err)
	}
}

// refuses holds the index against what it was, too.
func refuses(t *testing.T, x *index.Index, a add) {
	t.Helper()
	was := string(x.Bytes())
	if err := x.Add(a.offset, a.time, a.pos, a.size); err != api.ErrRange {
		t.Errorf("%v: %v", a, err)
	}
	if string(x.Bytes()) != was {
		t.Errorf("%v: refused, and it is there", a)
	}
}

func has(t *testing.T, x *index.Index, want ...index.Mark) {
	t.Helper()
	if got := x.Marks(); !slices.Equal(got, want) {
		t.Errorf("marks %v, not %v", got, want)
	}
}

// model is an index that keeps whatever it was told, and works its answers out anew each time.
type model struct {
	every int
	l     []entry
}

type entry struct {
	add
	marked bool
}

func (m *model) add(a add) bool {
	if a.offset < 0 || a.offset > 1<<40 || a.time < -1<<40 || a.time > 1<<40 || a.size < 1 || a.pos < 0 || a.pos > 1<<30 {
		return false
	}
	marked := true
	for _, e := range m.l {
		if a.offset <= e.offset || a.pos <= e.pos {
			return false
		}
		if e.marked {
			marked = a.pos >= e.pos+m.every
		}
	}
	m.l = append(m.l, entry{a, marked})
	return true
}

func (m *model) marks() []index.Mark {
	var l []index.Mark
	for i, e := range m.l {
		if e.marked {
			l = append(l, index.Mark{Offset: e.offset, Time: greatest(m.l[:i+1]), Pos: e.pos})
		}
	}
	return l
}

func greatest(l []entry) int64 {
	time := l[0].time
	for _, e := range l {
		time = max(time, e.time)
	}
	return time
}

func (m *model) cut(pos int) {
	m.l = slices.DeleteFunc(m.l, func(e entry) bool { return e.pos >= pos })
	for i := len(m.l) - 1; i >= 0 && !m.l[i].marked; i-- {
		m.l[i].time = -1 << 40 // its time is not known any more
	}
}

// read is what is left of it in its bytes.
func (m *model) read() *model {
	c := &model{every: m.every}
	for _, k := range m.marks() {
		c.l = append(c.l, entry{add{k.Offset, k.Time, k.Pos, 1}, true})
	}
	return c
}

func (m *model) clone() *model {
	return &model{every: m.every, l: slices.Clone(m.l)}
}

func (m *model) find(offset int64) int {
	pos := 0
	for _, k := range m.marks() {
		if k.Offset <= offset {
			pos = k.Pos
		}
	}
	return pos
}

func (m *model) when(time int64) (int64, bool) {
	for _, k := range m.marks() {
		if k.Time >= time {
			return k.Offset, true
		}
	}
	return 0, false
}

// isAs holds an index against a model of it.
func isAs(t *testing.T, x *index.Index, m *model) {
	t.Helper()
	if got, want := x.Marks(), m.marks(); !slices.Equal(got, want) {
		t.Fatalf("marks %v, not %v", got, want)
	}
	for n := int64(-3); n < 60; n++ {
		if got, want := x.Find(n), m.find(n); got != want {
			t.Fatalf("Find(%d) of %v = %d, not %d", n, m.marks(), got, want)
		}
		got, is := x.When(n)
		if want, wantIs := m.when(n); got != want || is != wantIs {
			t.Fatalf("When(%d) of %v = %d, %v, not %d, %v", n, m.marks(), got, is, want, wantIs)
		}
	}
}

func TestAsTheModel(t *testing.T) {
	r := rand.New(rand.NewSource(6))
	for round := range 600 {
		every := 1 + r.Intn(12)
		x, m := made(t, every), &model{every: every}
		var others []*index.Index
		var models []*model
		offset, pos := int64(0), 0
		for range 60 {
			switch r.Intn(12) {
			case 0:
				cut := pos - r.Intn(20)
				x.Cut(cut)
				m.cut(cut)
				if r.Intn(2) == 0 {
					pos = cut
				}
			case 1:
				others, models = append(others, x), append(models, m)
				x, m = x.Clone(), m.clone()
			case 2:
				y, err := index.Read(x.Bytes())
				if err != nil {
					t.Fatal(round, err)
				}
				others, models = append(others, x), append(models, m)
				x, m = y, m.read()
			default:
				a := add{offset + int64(r.Intn(5)) - 1, int64(r.Intn(50)) - 5, pos + r.Intn(6) - 1, r.Intn(9)}
				err := x.Add(a.offset, a.time, a.pos, a.size)
				if is := m.add(a); is != (err == nil) || !is && err != api.ErrRange {
					t.Fatalf("round %d, %v behind %v: %v", round, a, m.l, err)
				}
				if err == nil {
					offset, pos = a.offset, a.pos
				} else if r.Intn(3) == 0 {
					offset, pos = offset+1, pos+1
				}
			}
			isAs(t, x, m)
		}
		for i, y := range others {
			isAs(t, y, models[i])
		}
	}
}

// P6.1

func TestNewEdges(t *testing.T) {
	for _, every := range []int{1, 2, 100, 1 << 16, maxEvery - 1, maxEvery} {
		if x, err := index.New(every); x == nil || err != nil || len(x.Marks()) > 0 {
			t.Errorf("New(%d): %v", every, err)
		}
	}
	for _, every := range []int{0, -1, -100, math.MinInt, maxEvery + 1, 1 << 32, 1<<32 + 1, math.MaxInt} {
		if x, err := index.New(every); x != nil || err != api.ErrRange {
			t.Errorf("New(%d): %v", every, err)
		}
	}
}

func TestTheExample(t *testing.T) {
	x := made(t, 100, add{0, 1, 0, 60}, add{1, 2, 60, 60}, add{2, 3, 120, 60})
	has(t, x, index.Mark{Offset: 0, Time: 1, Pos: 0}, index.Mark{Offset: 2, Time: 3, Pos: 120})
}

func TestAddOfEdges(t *testing.T) {
	for _, a := range []add{
		{0, 0, 0, 1},
		{1, 0, 0, 1},
		{api.MaxOffset - 1, 0, 0, 1},
		{api.MaxOffset, 0, 0, 1},
		{7, -api.MaxTime, 0, 1},
		{7, -api.MaxTime + 1, 0, 1},
		{7, -1, 0, 1},
		{7, api.MaxTime - 1, 0, 1},
		{7, api.MaxTime, 0, 1},
		{7, 0, 1, 1},
		{7, 0, maxPos - 1, 1},
		{7, 0, maxPos, 1},
		{7, 0, maxPos, maxPos},
		{7, 0, 9, math.MaxInt},
		{api.MaxOffset, api.MaxTime, maxPos, math.MaxInt},
	} {
		for _, every := range []int{1, 100, maxEvery} {
			has(t, made(t, every, a), index.Mark{Offset: a.offset, Time: a.time, Pos: a.pos})
		}
	}
}

// wrongAdds are wrong in one number each, and right in the others; behind an Add of offset 6, pos 5, too.
func wrongAdds() []add {
	var l []add
	for _, n := range []int64{-1, -2, -api.MaxOffset, math.MinInt64, api.MaxOffset + 1, 1<<63 - 1} {
		l = append(l, add{n, 0, 10, 1})
	}
	for _, n := range []int64{-api.MaxTime - 1, math.MinInt64, api.MaxTime + 1, math.MaxInt64} {
		l = append(l, add{7, n, 10, 1})
	}
	for _, n := range []int{-1, -2, -maxPos, math.MinInt, maxPos + 1, 1 << 32, math.MaxInt} {
		l = append(l, add{7, 0, n, 1})
	}
	for _, n := range []int{0, -1, -maxPos, math.MinInt} {
		l = append(l, add{7, 0, 10, n})
	}
	return l
}

func TestAddOfWhatIsNotRight(t *testing.T) {
	for _, a := range wrongAdds() {
		x := made(t, 5)
		refuses(t, x, a)
		takes(t, x, add{0, -3, 0, 1}) // the first one still, and the greatest time still its own
		has(t, x, index.Mark{Offset: 0, Time: -3, Pos: 0})

		x = made(t, 5, add{6, -3, 5, 1})
		refuses(t, x, a)
		takes(t, x, add{7, -4, 10, 1})
		has(t, x, index.Mark{Offset: 6, Time: -3, Pos: 5}, index.Mark{Offset: 7, Time: -3, Pos: 10})
	}
}

func TestAddBehindTheLastOne(t *testing.T) {
	for _, first := range []add{{0, 1, 0, 1}, {19, 1, 49, 1}} { // ahead of an Add without a mark, and of one with
		for _, every := range []int{1, 1000} {
			x := made(t, every, first, add{20, 1, 50, 10})
			for _, a := range []add{
				{20, 9, 60, 1}, {19, 9, 60, 1}, {0, 9, 60, 1},
				{21, 9, 50, 1}, {21, 9, 49, 1}, {21, 9, 0, 1},
				{20, 9, 50, 1}, {19, 9, 49, 1},
			} {
				refuses(t, x, a)
			}
			takes(t, x, add{21, 1, 51, 1}) // within the ten bytes of the one ahead: its size counts for nothing
			refuses(t, x, add{21, 1, 52, 1})
			refuses(t, x, add{22, 1, 51, 1})
			takes(t, x, add{22, 1, 52, 1})
		}
	}
}

func TestWhatIsRefusedIsNotTheLastOne(t *testing.T) {
	x := made(t, 10, add{5, 1, 5, 1})
	refuses(t, x, add{30, 99, 30, 0})
	refuses(t, x, add{40, 99, 5, 1})
	refuses(t, x, add{5, 99, 40, 1})
	takes(t, x, add{6, 0, 6, 1})
	takes(t, x, add{7, 0, 15, 1})
	has(t, x, index.Mark{Offset: 5, Time: 1, Pos: 5}, index.Mark{Offset: 7, Time: 1, Pos: 15})
}

func TestEveryBytesBehindTheLastMark(t *testing.T) {
	for _, every := range []int{1, 2, 100, maxEvery} {
		for _, at := range []int{0, 1, 77} {
			first := index.Mark{Offset: 3, Pos: at}
			for _, x := range []struct {
				pos  int
				mark bool
			}{{at + every - 1, false}, {at + every, true}, {at + every + 1, true}, {at + 2*every, true}} {
				if x.pos == at {
					continue
				}
				y := made(t, every, add{3, 0, at, 1}, add{4, 0, x.pos, 1})
				if x.mark {
					has(t, y, first, index.Mark{Offset: 4, Pos: x.pos})
				} else {
					has(t, y, first)
				}
			}
		}
	}
}

func TestMarksLieBehindMarksAndNotBehindAdds(t *testing.T) {
	x := made(t, 10)
	for pos := range 36 {
		takes(t, x, add{int64(pos), 0, pos, 1000})
	}
	has(t, x, index.Mark{}, index.Mark{Offset: 10, Pos: 10}, index.Mark{Offset: 20, Pos: 20}, index.Mark{Offset: 30, Pos: 30})
	takes(t, x, add{36, 0, 57, 1})
	takes(t, x, add{37, 0, 66, 1})
	takes(t, x, add{38, 0, 67, 1})
	if l := x.Marks()[4:]; !slices.Equal(l, []index.Mark{{Offset: 36, Pos: 57}, {Offset: 38, Pos: 67}}) {
		t.Error(l)
	}
}

func TestGreatestTime(t *testing.T) {
	for _, x := range []struct {
		times []int64 // of batches ten bytes from one another, each second one with a mark
		want  []int64
	}{
		{[]int64{-5, -6, -7}, []int64{-5, -5}},
		{[]int64{-5, -4, -7}, []int64{-5, -4}},
		{[]int64{5, 9, 7, 8, 6}, []int64{5, 9, 9}},
		{[]int64{5, 9, 10, 11, 12}, []int64{5, 10, 12}},
		{[]int64{api.MaxTime, -api.MaxTime, 0}, []int64{api.MaxTime, api.MaxTime}},
		{[]int64{-api.MaxTime, -api.MaxTime, -api.MaxTime}, []int64{-api.MaxTime, -api.MaxTime}},
		{[]int64{-api.MaxTime, api.MaxTime, 0}, []int64{-api.MaxTime, api.MaxTime}},
	} {
		y := made(t, 20)
		for i, time := range x.times {
			takes(t, y, add{int64(i), time, 10 * i, 10})
		}
		var got []int64
		for _, m := range y.Marks() {
			got = append(got, m.Time)
		}
		if !slices.Equal(got, x.want) {
			t.Errorf("times %v: %v, not %v", x.times, got, x.want)
		}
	}
}

// P6.2

// three has marks 10@0, 20@100 and 30@200, of times 5, 7 and 7, and unmarked batches between.
func three(t *testing.T) *index.Index {
	return made(t, 100, add{10, 5, 0, 50}, add{15, 2, 50, 50}, add{20, 7, 100, 50}, add{25, 6, 150, 50}, add{30, 1, 200, 50}, add{35, 9, 250, 50})
}

func TestFind(t *testing.T) {
	x := three(t)
	for offset, want := range map[int64]int{
		math.MinInt64: 0, -1: 0, 0: 0, 9: 0, 10: 0, 11: 0, 15: 0, 19: 0,
		20: 100, 21: 100, 25: 100, 29: 100,
		30: 200, 31: 200, 35: 200, 36: 200, api.MaxOffset: 200, api.MaxOffset + 1: 200, math.MaxInt64: 200,
	} {
		if got := x.Find(offset); got != want {
			t.Errorf("Find(%d) = %d, not %d", offset, got, want)
		}
	}
}

func TestFindAheadOfTheFirstMark(t *testing.T) {
	x := made(t, 100, add{10, 5, 70, 50})
	for offset, want := range map[int64]int{math.MinInt64: 0, 0: 0, 9: 0, 10: 70, 11: 70, math.MaxInt64: 70} {
		if got := x.Find(offset); got != want {
			t.Errorf("Find(%d) = %d, not %d", offset, got, want)
		}
	}
}

func TestWhen(t *testing.T) {
	x := three(t)
	for time, want := range map[int64]int64{math.MinInt64: 10, -api.MaxTime: 10, 0: 10, 4: 10, 5: 10, 6: 20, 7: 20} {
		if got, is := x.When(time); got != want || !is {
			t.Errorf("When(%d) = %d, %v, not %d", time, got, is, want)
		}
	}
	for _, time := range []int64{8, 9, 10, api.MaxTime, api.MaxTime + 1, math.MaxInt64} {
		if got, is := x.When(time); got != 0 || is {
			t.Errorf("When(%d) = %d, %v", time, got, is)
		}
	}
}

func TestFindAndWhenWithNoMark(t *testing.T) {
	cut := three(t)
	cut.Cut(0)
	for i, x := range []*index.Index{made(t, 1), made(t, maxEvery), cut} {
		for _, n := range []int64{math.MinInt64, -1, 0, 1, 10, 200, math.MaxInt64} {
			if pos := x.Find(n); pos != 0 {
				t.Errorf("%d: Find(%d) = %d", i, n, pos)
			}
			if offset, is := x.When(n); offset != 0 || is {
				t.Errorf("%d: When(%d) = %d, %v", i, n, offset, is)
			}
		}
		has(t, x)
	}
}

func TestCut(t *testing.T) {
	marks := three(t).Marks()
	for pos, left := range map[int]int{
		math.MinInt: 0, -1: 0, 0: 0,
		1: 1, 50: 1, 99: 1, 100: 1,
		101: 2, 199: 2, 200: 2,
		201: 3, 250: 3, 251: 3, maxPos: 3, maxPos + 1: 3, math.MaxInt: 3,
	} {
		x := three(t)
		x.Cut(pos)
		if got := x.Marks(); !slices.Equal(got, marks[:left]) {
			t.Errorf("Cut(%d): %v", pos, got)
		}
		x.Cut(pos)
		if got := x.Marks(); !slices.Equal(got, marks[:left]) {
			t.Errorf("Cut(%d) twice: %v", pos, got)
		}
	}
	x := made(t, 7)
	for _, pos := range []int{math.MinInt, -1, 0, 1, math.MaxInt} {
		x.Cut(pos)
		has(t, x)
	}
	takes(t, x, add{0, -8, 0, 1})
	has(t, x, index.Mark{Time: -8})
}

// The Adds of three have an offset for each ten bytes: 15@50 is ahead of 20@100.
func TestAddBehindACut(t *testing.T) {
	for _, c := range []struct {
		cut    int
		offset int64 // of the last Add that is left
		pos    int
	}{{1, 10, 0}, {50, 10, 0}, {51, 15, 50}, {99, 15, 50}, {100, 15, 50}, {101, 20, 100}, {150, 20, 100}, {151, 25, 150}, {200, 25, 150}, {201, 30, 200}, {250, 30, 200}, {251, 35, 250}, {math.MaxInt, 35, 250}} {
		x := three(t)
		x.Cut(c.cut)
		refuses(t, x, add{c.offset, 1, c.pos + 1, 1})
		refuses(t, x, add{c.offset - 1, 1, c.pos + 1, 1})
		refuses(t, x, add{c.offset + 1, 1, c.pos, 1})
		refuses(t, x, add{c.offset + 1, 1, c.pos - 1, 1})
		takes(t, x, add{c.offset + 1, 1, c.pos + 1, 1})
	}
}

func TestAddOfWhatWasCut(t *testing.T) {
	x := three(t)
	x.Cut(100)
	takes(t, x, add{20, 3, 100, 1}) // the same again
	takes(t, x, add{25, 3, 150, 1})
	takes(t, x, add{30, 3, 200, 1})
	has(t, x, index.Mark{Offset: 10, Time: 5, Pos: 0}, index.Mark{Offset: 20, Time: 5, Pos: 100}, index.Mark{Offset: 30, Time: 5, Pos: 200})

	x = three(t)
	x.Cut(100)
	takes(t, x, add{30, 3, 99, 1}) // an offset that was cut, and a pos that had none
	takes(t, x, add{35, 3, 250, 1})
	has(t, x, index.Mark{Offset: 10, Time: 5, Pos: 0}, index.Mark{Offset: 35, Time: 5, Pos: 250})

	x = three(t)
	x.Cut(0)
	takes(t, x, add{0, -9, 3, 1}) // the first one again
	takes(t, x, add{1, -8, 102, 1})
	takes(t, x, add{2, -20, 103, 1})
	has(t, x, index.Mark{Offset: 0, Time: -9, Pos: 3}, index.Mark{Offset: 2, Time: -8, Pos: 103})
}

func TestGreatestTimeBehindACut(t *testing.T) {
	for cut, want := range map[int]int64{1: 5, 50: 5, 51: 5, 100: 5, 101: 7, 151: 7, 201: 7, 251: 7, math.MaxInt: 7} {
		x := three(t)
		x.Cut(cut)
		takes(t, x, add{100, 4, 900, 1})
		if got := x.Marks(); got[len(got)-1] != (index.Mark{Offset: 100, Time: want, Pos: 900}) {
			t.Errorf("Cut(%d): %v", cut, got)
		}
	}
	x := made(t, 100, add{10, 5, 0, 50}, add{15, 90, 50, 50})
	x.Cut(51) // 15@50 is left, but its time was in no mark
	takes(t, x, add{20, 6, 100, 1})
	has(t, x, index.Mark{Offset: 10, Time: 5, Pos: 0}, index.Mark{Offset: 20, Time: 6, Pos: 100})
}

func TestMarksAreNewMemory(t *testing.T) {
	x := three(t)
	want := slices.Clone(x.Marks())
	first, second := x.Marks(), x.Marks()
	for i := range first {
		first[i] = index.Mark{Offset: -1, Time: -1, Pos: -1}
	}
	_ = append(first, index.Mark{Offset: 77})
	has(t, x, want...)
	if !slices.Equal(second, want) {
		t.Error("two answers share memory:", second)
	}
	full := second[:cap(second)]
	for i := range full {
		full[i] = index.Mark{Offset: 99}
	}
	takes(t, x, add{40, 3, 300, 1})
	has(t, x, append(want, index.Mark{Offset: 40, Time: 9, Pos: 300})...)

	x = three(t)
	x.Cut(150)
	left := x.Marks()
	_ = append(left, index.Mark{Offset: 77}, index.Mark{Offset: 78})
	takes(t, x, add{40, 3, 300, 1})
	has(t, x, want[0], want[1], index.Mark{Offset: 40, Time: 7, Pos: 300})
	if !slices.Equal(left, want[:2]) {
		t.Error("an Add changes what was handed out:", left)
	}
}

func TestClone(t *testing.T) {
	x := three(t)
	want := x.Marks()
	c := x.Clone()
	has(t, c, want...)
	refuses(t, c, add{35, 1, 300, 1})
	refuses(t, c, add{36, 1, 250, 1})
	takes(t, c, add{36, 1, 299, 1})
	takes(t, c, add{37, 1, 300, 1})
	has(t, c, append(slices.Clone(want), index.Mark{Offset: 37, Time: 9, Pos: 300})...)
	has(t, x, want...)
	takes(t, x, add{36, 1, 251, 1}) // what the copy took is not the index's last

	c.Cut(101)
	takes(t, c, add{21, 8, 201, 1})
	has(t, c, want[0], want[1], index.Mark{Offset: 21, Time: 8, Pos: 201})
	has(t, x, want...)

	x.Cut(0)
	takes(t, x, add{1, 1, 1, 1})
	has(t, c, want[0], want[1], index.Mark{Offset: 21, Time: 8, Pos: 201})
	refuses(t, c, add{21, 1, 202, 1})

	e := made(t, 3).Clone()
	has(t, e)
	takes(t, e, add{1, -1, 1, 1})
	takes(t, e, add{2, -2, 3, 1})
	takes(t, e, add{3, -2, 4, 1})
	has(t, e, index.Mark{Offset: 1, Time: -1, Pos: 1}, index.Mark{Offset: 3, Time: -1, Pos: 4})
}

func TestClonesOfOneIndexGoOnApart(t *testing.T) {
	x := made(t, 1, add{1, 1, 1, 1}, add{2, 2, 2, 1}, add{3, 3, 3, 1})
	a, b := x.Clone(), x.Clone()
	takes(t, x, add{10, 10, 10, 1})
	takes(t, a, add{20, 20, 20, 1})
	takes(t, b, add{30, 30, 30, 1})
	for i, y := range []*index.Index{x, a, b} {
		n := int64(10 * (i + 1))
		if l := y.Marks(); len(l) != 4 || l[3] != (index.Mark{Offset: n, Time: n, Pos: int(n)}) {
			t.Error(i, l)
		}
		refuses(t, y, add{n, 1, 99, 1})
		y.Clone().Cut(0)
		takes(t, y, add{n + 1, 1, int(n) + 1, 1})
	}
}
