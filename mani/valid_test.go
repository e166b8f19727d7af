package mani_test

import (
	"bytes"
	"fmt"
	"math"
	"slices"
	"strings"
	"testing"

	"cordwood/api"
	"cordwood/mani"
)

const (
	maxID  = 1<<31 - 1
	maxLen = 1 << 30
)

func p(epoch int, start int64) api.Pair { return api.Pair{Epoch: epoch, Start: start} }

func o(name string, size int, sum uint32) api.Object {
	return api.Object{Name: name, Len: size, Sum: sum}
}

// two is a manifest that may be, anew each time: of two epochs and two objects.
func two() api.Manifest {
	return api.Manifest{
		ID: 7, Base: 10, End: 20, Time: 5,
		Epochs:  []api.Pair{p(2, 10), p(3, 15)},
		Objects: []api.Object{o("a", 4, 9), o("b", 0, 0)},
	}
}

// with is two, but for what is done to it.
func with(do ...func(m *api.Manifest)) api.Manifest {
	m := two()
	for _, f := range do {
		f(&m)
	}
	return m
}

// rising is n pairs from base on.
func rising(n int, base int64) []api.Pair {
	var l []api.Pair
	for i := range n {
		l = append(l, p(i, base+int64(i)))
	}
	return l
}

// objects is n objects, each of another name.
func objects(n int) []api.Object {
	var l []api.Object
	for i := range n {
		l = append(l, o(fmt.Sprint("x", i), i, uint32(i)))
	}
	return l
}

// full is the manifest that has the most of everything.
func full() api.Manifest {
	m := api.Manifest{ID: maxID, Base: api.MaxOffset - api.MaxEpochs, End: api.MaxOffset, Time: -api.MaxTime}
	for i := range api.MaxEpochs {
		m.Epochs = append(m.Epochs, p(api.MaxEpoch-api.MaxEpochs+i+1, m.Base+int64(i)))
	}
	for i := range api.MaxObjects {
		m.Objects = append(m.Objects, o(strings.Repeat("n", api.MaxName-1)+fmt.Sprint(i), maxLen, math.MaxUint32))
	}
	return m
}

// least is the one that has the least of everything.
func least() api.Manifest {
	return api.Manifest{End: 1, Epochs: []api.Pair{p(0, 0)}, Objects: []api.Object{o("-", 0, 0)}}
}

// alike tells whether both have the same, by the language's own means.
func alike(a, b api.Manifest) bool {
	return a.ID == b.ID && a.Base == b.Base && a.End == b.End && a.Time == b.Time &&
		slices.Equal(a.Epochs, b.Epochs) && slices.Equal(a.Objects, b.Objects)
}

func isNothing(m api.Manifest) bool { return alike(m, api.Manifest{}) }

// isError tells whether err is want, bare if pos is below 0, else around pos.
func isError(err, want error, pos int) bool {
	if pos < 0 {
		return err == want
	}
	at, ok := err.(*api.At)
	return ok && at.Pos == pos && at.Err == want
}

// mayBe checks that a manifest may be, and goes to bytes and back.
func mayBe(t *testing.T, m api.Manifest) {
	t.Helper()
	if err := mani.Valid(m); err != nil {
		t.Errorf("%#v: %v", m, err)
		return
	}
	b, err := mani.Bytes(m)
	if err != nil || !bytes.Equal(b, told(m)) {
		t.Errorf("%#v: %v, %v, not %v", m, b, err, told(m))
		return
	}
	if n, err := mani.Read(b); err != nil || !alike(m, n) {
		t.Errorf("%#v: %#v, %v", m, n, err)
	}
}

// mayNot checks that a manifest may not be, whoever is asked.
func mayNot(t *testing.T, m api.Manifest, want error, pos int) {
	t.Helper()
	if err := mani.Valid(m); !isError(err, want, pos) {
		t.Errorf("%#v: %v, not %v at %d", m, err, want, pos)
	}
	if b, err := mani.Bytes(m); len(b) > 0 || !isError(err, want, pos) {
		t.Errorf("Bytes of %#v: %v, %v, not %v at %d", m, b, err, want, pos)
	}
	if !canBeRead(m) {
		return
	}
	if n, err := mani.Read(told(m)); !isNothing(n) || !isError(err, want, pos) {
		t.Errorf("Read of %#v: %#v, %v, not %v at %d", m, n, err, want, pos)
	}
}

// canBeRead tells whether each number and name of a manifest is one that Read lets pass, be it right or not.
func canBeRead(m api.Manifest) bool {
	l := []int64{int64(m.ID), m.Base, m.End}
	for _, x := range m.Epochs {
		l = append(l, int64(x.Epoch), x.Start)
	}
	for _, x := range m.Objects {
		if len(x.Name) > api.MaxName {
			return false
		}
		l = append(l, int64(x.Len))
	}
	return slices.Min(l) >= 0 && slices.Max(append(l, m.Time)) <= 1<<62 && m.Time >= -1<<62 &&
		len(m.Epochs) <= api.MaxEpochs && len(m.Objects) <= api.MaxObjects
}

// P14.1: Valid

func TestValid(t *testing.T) {
	for _, m := range []api.Manifest{
		two(), full(), least(),
		with(func(m *api.Manifest) { m.ID = 0 }),
		with(func(m *api.Manifest) { m.ID = maxID }),
		with(func(m *api.Manifest) { m.Time = 0 }),
		with(func(m *api.Manifest) { m.Time = -1 }),
		with(func(m *api.Manifest) { m.Time = api.MaxTime }),
		with(func(m *api.Manifest) { m.Time = -api.MaxTime }),
		with(func(m *api.Manifest) { m.End = 16 }), // the last epoch starts just below it
		with(func(m *api.Manifest) { m.End = api.MaxOffset }),
		with(func(m *api.Manifest) { m.Epochs[1].Start = 19 }),
		with(func(m *api.Manifest) { m.Epochs[1].Start = 11 }),
		with(func(m *api.Manifest) { m.Base, m.Epochs[0].Start = 0, 0 }),
		with(func(m *api.Manifest) { m.Epochs[0].Epoch = 0 }),
		with(func(m *api.Manifest) { m.Epochs[1].Epoch = api.MaxEpoch }),
		with(func(m *api.Manifest) { m.Epochs = m.Epochs[:1] }),
		with(func(m *api.Manifest) { m.Epochs, m.End = m.Epochs[:1], 11 }),
		with(func(m *api.Manifest) { m.Epochs, m.End = rising(api.MaxEpochs-1, 10), 10+api.MaxEpochs }),
		with(func(m *api.Manifest) { m.Epochs, m.End = rising(api.MaxEpochs, 10), 10+api.MaxEpochs }),
		with(func(m *api.Manifest) { m.Objects = m.Objects[:1] }),
		with(func(m *api.Manifest) { m.Objects = objects(api.MaxObjects - 1) }),
		with(func(m *api.Manifest) { m.Objects = objects(api.MaxObjects) }),
		with(func(m *api.Manifest) { m.Objects[0].Len = maxLen }),
		with(func(m *api.Manifest) { m.Objects[1].Len = maxLen }),
		with(func(m *api.Manifest) { m.Objects[0].Sum = math.MaxUint32 }),
		with(func(m *api.Manifest) { m.Objects[0].Name, m.Objects[1].Name = "b", "a" }),
		with(func(m *api.Manifest) { m.Objects[0].Name = "bb" }),
		with(func(m *api.Manifest) { m.Objects[1].Len, m.Objects[1].Sum = 4, 9 }), // just the names differ
		{Base: api.MaxOffset - 1, End: api.MaxOffset, Epochs: []api.Pair{p(api.MaxEpoch, api.MaxOffset-1)}, Objects: objects(1)},
		{Base: 0, End: api.MaxOffset, Epochs: []api.Pair{p(0, 0), p(api.MaxEpoch, api.MaxOffset-1)}, Objects: objects(1)},
	} {
		mayBe(t, m)
	}
}

func TestValidOfAnID(t *testing.T) {
	for _, id := range []int{-1, -2, math.MinInt32, math.MinInt, maxID + 1, 1 << 32, 1<<32 + 7, 1 << 62, math.MaxInt} {
		mayNot(t, with(func(m *api.Manifest) { m.ID = id }), api.ErrRange, -1)
	}
}

func TestValidOfATime(t *testing.T) {
	for _, time := range []int64{api.MaxTime + 1, -api.MaxTime - 1, 1 << 62, -1 << 62, math.MaxInt64, math.MinInt64} {
		mayNot(t, with(func(m *api.Manifest) { m.Time = time }), api.ErrRange, -1)
	}
}

func TestValidOfBaseAndEnd(t *testing.T) {
	for _, x := range [][2]int64{
		{-1, 20}, {math.MinInt64, 20}, {-1, 0}, {-20, -10}, {math.MinInt64, math.MinInt64}, {math.MinInt64, math.MaxInt64}, {math.MaxInt64, math.MinInt64},
		{0, 0}, {10, 10}, {10, 9}, {10, 0}, {10, -1}, {10, math.MinInt64}, {1, 0},
		{api.MaxOffset, api.MaxOffset}, {api.MaxOffset, api.MaxOffset + 1}, {api.MaxOffset, 0}, {api.MaxOffset, api.MaxOffset - 1},
		{10, api.MaxOffset + 1}, {0, api.MaxOffset + 1}, {10, 1 << 62}, {10, math.MaxInt64},
		{api.MaxOffset + 1, api.MaxOffset + 2}, {api.MaxOffset + 1, api.MaxOffset}, {api.MaxOffset + 1, 20}, {1 << 62, 1 << 62}, {math.MaxInt64, math.MaxInt64},
	} {
		m := with(func(m *api.Manifest) { m.Base, m.End, m.Epochs = x[0], x[1], []api.Pair{p(2, x[0])} })
		mayNot(t, m, api.ErrRange, -1)
		m.Epochs = two().Epochs
		mayNot(t, m, api.ErrRange, -1)
	}
}

// One above Base is enough, and each offset may be one of them.
func TestValidOfOneOffset(t *testing.T) {
	for _, base := range []int64{0, 1, 127, 128, 1 << 20, api.MaxOffset - 2, api.MaxOffset - 1} {
		mayBe(t, api.Manifest{Base: base, End: base + 1, Epochs: []api.Pair{p(1, base)}, Objects: objects(1)})
	}
}

func TestValidOfEpochsThatAreNoLineage(t *testing.T) {
	for _, x := range []struct {
		l    []api.Pair
		want error
	}{
		{rising(api.MaxEpochs+1, 10), api.ErrMany},
		{make([]api.Pair, api.MaxEpochs+1), api.ErrMany},
		{append(rising(api.MaxEpochs, 10), p(-1, -1)), api.ErrMany},
		{[]api.Pair{p(-1, 10)}, api.ErrRange},
		{[]api.Pair{p(math.MinInt, 10)}, api.ErrRange},
		{[]api.Pair{p(api.MaxEpoch+1, 10)}, api.ErrRange},
		{[]api.Pair{p(1<<62, 10)}, api.ErrRange},
		{[]api.Pair{p(math.MaxInt, 10)}, api.ErrRange},
		{[]api.Pair{p(2, 10), p(-1, 15)}, api.ErrRange},
		{[]api.Pair{p(2, 10), p(api.MaxEpoch+1, 15)}, api.ErrRange},
		{[]api.Pair{p(2, 10), p(3, -1)}, api.ErrRange},
		{[]api.Pair{p(2, 10), p(3, api.MaxOffset+1)}, api.ErrRange},
		{[]api.Pair{p(2, 10), p(3, 1<<62)}, api.ErrRange},
		{[]api.Pair{p(2, 10), p(3, math.MaxInt64)}, api.ErrRange},
		{[]api.Pair{p(2, 10), p(2, 15)}, api.ErrShape},
		{[]api.Pair{p(2, 10), p(1, 15)}, api.ErrShape},
		{[]api.Pair{p(2, 10), p(3, 10)}, api.ErrShape},
		{[]api.Pair{p(2, 10), p(3, 9)}, api.ErrShape},
		{[]api.Pair{p(2, 10), p(3, 15), p(3, 16)}, api.ErrShape},
		{[]api.Pair{p(2, 10), p(3, 15), p(4, 15)}, api.ErrShape},
		{make([]api.Pair, api.MaxEpochs), api.ErrShape},
	} {
		mayNot(t, with(func(m *api.Manifest) { m.Epochs = x.l }), x.want, -1)
	}
}

func TestValidOfEpochsThatAreNotItsOwn(t *testing.T) {
	for _, l := range [][]api.Pair{
		nil, {},
		{p(2, 9)}, {p(2, 11)}, {p(2, 0)}, {p(2, 19)}, {p(2, 20)}, {p(2, 21)}, {p(2, api.MaxOffset)},
		{p(2, 9), p(3, 10)}, {p(2, 9), p(3, 15)}, {p(2, 11), p(3, 15)},
		{p(2, 10), p(3, 20)}, {p(2, 10), p(3, 21)}, {p(2, 10), p(3, api.MaxOffset)},
		{p(2, 10), p(3, 15), p(4, 20)}, {p(2, 10), p(3, 15), p(4, 30)},
		{p(2, 10), p(3, 20), p(4, 30)}, {p(2, 9), p(3, 20)},
	} {
		mayNot(t, with(func(m *api.Manifest) { m.Epochs = l }), api.ErrShape, -1)
	}
	mayBe(t, with(func(m *api.Manifest) { m.Epochs = []api.Pair{p(2, 10), p(3, 18), p(9, 19)} }))
}

func TestValidOfHowManyObjects(t *testing.T) {
	for _, l := range [][]api.Object{nil, {}, objects(api.MaxObjects + 1), objects(100), make([]api.Object, api.MaxObjects+1)} {
		mayNot(t, with(func(m *api.Manifest) { m.Objects = l }), api.ErrMany, -1)
	}
	for n := range api.MaxObjects {
		mayBe(t, with(func(m *api.Manifest) { m.Objects = objects(n + 1) }))
	}
}

// Each byte at the beginning, in the middle and at the end of a name, and each length, of each object.
func TestValidOfAName(t *testing.T) {
	const within = "abcdefghijklmnopqrstuvwxyz0123456789.-_"
	named := func(n int, name string, is bool) {
		t.Helper()
		m := with(func(m *api.Manifest) { m.Objects = objects(api.MaxObjects) })
		m.Objects[n].Name = name
		if is {
			mayBe(t, m)
		} else {
			mayNot(t, m, api.ErrName, n)
		}
	}
	for c := range 256 {
		one := string([]byte{byte(c)})
		for _, name := range []string{one, one + "b", "b" + one, strings.Repeat("b", 30) + one + "b"} {
			named(c%api.MaxObjects, name, strings.Contains(within, one))
		}
	}
	for size := range 2*api.MaxName + 3 {
		for n := range api.MaxObjects {
			named(n, strings.Repeat("n", size), size >= 1 && size <= api.MaxName)
		}
	}
}

func TestValidOfALen(t *testing.T) {
	for n := range api.MaxObjects {
		m := with(func(m *api.Manifest) { m.Objects = objects(api.MaxObjects) })
		for _, size := range []int{-1, -2, math.MinInt32, math.MinInt, maxLen + 1, 1 << 32, 1<<32 + 5, 1 << 62, math.MaxInt} {
			m.Objects[n].Len = size
			mayNot(t, m, api.ErrRange, n)
		}
		for _, size := range []int{0, 1, maxLen - 1, maxLen} {
			m.Objects[n].Len = size
			mayBe(t, m)
		}
	}
}

func TestValidOfTwoOfOneName(t *testing.T) {
	for i := range api.MaxObjects {
		for j := range i {
			m := with(func(m *api.Manifest) { m.Objects = objects(api.MaxObjects) })
			m.Objects[j].Name = m.Objects[i].Name
			mayNot(t, m, api.ErrShape, -1) // nothing else of them is the same
			m.Objects[j] = m.Objects[i]
			mayNot(t, m, api.ErrShape, -1)
		}
	}
	mayNot(t, with(func(m *api.Manifest) { m.Objects = slices.Repeat(m.Objects[:1], api.MaxObjects) }), api.ErrShape, -1)
}

// fault is what is wrong of a manifest, and what is told of it.
type fault struct {
	do   func(m *api.Manifest)
	want error
	pos  int
}

// faults are those of each clause of Valid, in its order, of a manifest of four objects; those of the first two objects stand for clauses of their own. One of a later clause may be done ahead of one of an earlier clause, and the earlier one still holds.
func faults() [][]fault {
	return [][]fault{
		{
			{func(m *api.Manifest) { m.ID = -1 }, api.ErrRange, -1},
			{func(m *api.Manifest) { m.ID = maxID + 1 }, api.ErrRange, -1},
			{func(m *api.Manifest) { m.Base = -1 }, api.ErrRange, -1},
			{func(m *api.Manifest) { m.Base = api.MaxOffset + 1 }, api.ErrRange, -1},
			{func(m *api.Manifest) { m.End = -1 }, api.ErrRange, -1},
			{func(m *api.Manifest) { m.End = 10 }, api.ErrRange, -1},
			{func(m *api.Manifest) { m.End = api.MaxOffset + 1 }, api.ErrRange, -1},
			{func(m *api.Manifest) { m.Time = api.MaxTime + 1 }, api.ErrRange, -1},
			{func(m *api.Manifest) { m.Time = -api.MaxTime - 1 }, api.ErrRange, -1},
		},
		{
			{func(m *api.Manifest) { m.Epochs = make([]api.Pair, api.MaxEpochs+1) }, api.ErrMany, -1},
			{func(m *api.Manifest) { m.Epochs = []api.Pair{p(1, 1), p(1, 1), p(-1, 9)} }, api.ErrRange, -1},
			{func(m *api.Manifest) { m.Epochs = []api.Pair{p(1, 11), p(-1, 30)} }, api.ErrRange, -1},
			{func(m *api.Manifest) { m.Epochs = []api.Pair{p(1, 1), p(1, 1)} }, api.ErrShape, -1},
			{func(m *api.Manifest) { m.Epochs = nil }, api.ErrShape, -1},
			{func(m *api.Manifest) { m.Epochs[0].Start = 11 }, api.ErrShape, -1},
			{func(m *api.Manifest) { m.Epochs[1].Start = 20 }, api.ErrShape, -1},
		},
		{
			{func(m *api.Manifest) { m.Objects = nil }, api.ErrMany, -1},
			{func(m *api.Manifest) { m.Objects = append(m.Objects, objects(api.MaxObjects-1)...) }, api.ErrMany, -1},
		},
		{
			{func(m *api.Manifest) { m.Objects[0].Name, m.Objects[0].Len = "A", -1 }, api.ErrName, 0},
			{func(m *api.Manifest) { m.Objects[0].Name = "" }, api.ErrName, 0},
			{func(m *api.Manifest) { m.Objects[0].Len = maxLen + 1 }, api.ErrRange, 0},
			{func(m *api.Manifest) { m.Objects[0].Len = -1 }, api.ErrRange, 0},
		},
		{
			{func(m *api.Manifest) { m.Objects[1].Name, m.Objects[1].Len = "B", -1 }, api.ErrName, 1},
			{func(m *api.Manifest) { m.Objects[1].Name = strings.Repeat("b", api.MaxName+1) }, api.ErrName, 1},
			{func(m *api.Manifest) { m.Objects[1].Len = maxLen + 1 }, api.ErrRange, 1},
			{func(m *api.Manifest) { m.Objects[1].Len = -1 }, api.ErrRange, 1},
		},
		{
			{func(m *api.Manifest) { m.Objects[2].Name = m.Objects[3].Name }, api.ErrShape, -1},
		},
	}
}

// Of two faults that of the clause that is named first is told; of those of objects that of the first object.
func TestValidTellsTheFirstError(t *testing.T) {
	four := func(m *api.Manifest) { m.Objects = objects(4) }
	clauses := faults()
	for i, firsts := range clauses {
		for _, first := range firsts {
			mayNot(t, with(four, first.do), first.want, first.pos)
			for _, thens := range clauses[i+1:] {
				for _, then := range thens {
					mayNot(t, with(four, then.do, first.do), first.want, first.pos)
				}
			}
		}
	}
}

// The first one that is no pair, no object at all, and so on: of nothing but zeros.
func TestValidOfNothing(t *testing.T) {
	var m api.Manifest
	mayNot(t, m, api.ErrRange, -1)
	m.End = 1
	mayNot(t, m, api.ErrShape, -1)
	m.Epochs = make([]api.Pair, 1)
	mayNot(t, m, api.ErrMany, -1)
	m.Objects = make([]api.Object, 2)
	mayNot(t, m, api.ErrName, 0)
	m.Objects[0].Name = "0"
	mayNot(t, m, api.ErrName, 1)
	m.Objects[1].Name = "0"
	mayNot(t, m, api.ErrShape, -1)
	m.Objects[1].Name = "1"
	mayBe(t, m)
}
