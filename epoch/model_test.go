package epoch_test

import (
	"math/rand"
	"slices"
	"testing"

	"cordwood/api"
	"cordwood/epoch"
)

// offsets is how many offsets a model has; the last of them stands for all behind.
const offsets = 32

// nobody is the epoch of an offset ahead of the first pair.
const nobody = -1

// model is a lineage by its words: which epoch each offset has.
type model [offsets]int

func newModel() *model {
	var m model
	for o := range m {
		m[o] = nobody
	}
	return &m
}

// runs is the pairs of the offsets from from to below to.
func (m *model) runs(from, to int64) []api.Pair {
	var l []api.Pair
	for o := max(from, 0); o < min(to, offsets); o++ {
		if m[o] != nobody && (o == max(from, 0) || m[o] != m[o-1]) {
			l = append(l, p(m[o], o))
		}
	}
	return l
}

func (m *model) begin(epoch int, start int64) error {
	l := m.runs(0, offsets)
	if len(l) > 0 {
		last := l[len(l)-1]
		if epoch < last.Epoch {
			return api.ErrFenced
		}
		if epoch == last.Epoch {
			return nil
		}
		if start < last.Start {
			return api.ErrShape
		}
	}
	for o := start; o < offsets; o++ {
		m[o] = epoch
	}
	return nil
}

// cutEnd lets who has the offset ahead of it go on.
func (m *model) cutEnd(offset int64) {
	ahead := nobody
	if offset > 0 {
		ahead = m[offset-1]
	}
	for o := offset; o < offsets; o++ {
		m[o] = ahead
	}
}

func (m *model) cutStart(offset int64) {
	for o := range min(offset, offsets-1) {
		m[o] = nobody
	}
}

func (m *model) end(epoch int, end int64) (int, int64, bool) {
	for o := int64(offsets - 1); o >= 0; o-- {
		if m[o] == nobody || m[o] > epoch {
			continue
		}
		if o < offsets-1 {
			end = o + 1
		}
		return m[o], end, true
	}
	return 0, 0, false
}

func (m *model) has(l []api.Pair, end, whole int64) bool {
	if end > whole || len(l) == 0 || l[len(l)-1].Start >= end {
		return false
	}
	for i, x := range l {
		to := end
		if i+1 < len(l) {
			to = l[i+1].Start
		}
		if to <= x.Start || i > 0 && x.Epoch <= l[i-1].Epoch {
			return false
		}
		for o := x.Start; o < to; o++ {
			if m[o] != x.Epoch {
				return false
			}
		}
	}
	return true
}

// change makes one call, of both.
func change(t *testing.T, r *rand.Rand, e *epoch.Line, m *model) {
	t.Helper()
	offset := int64(r.Intn(offsets))
	switch r.Intn(8) {
	case 0:
		e.CutEnd(offset)
		m.cutEnd(offset)
	case 1:
		e.CutStart(offset)
		m.cutStart(offset)
	default:
		epoch := r.Intn(40)
		if last, is := e.Last(); is && r.Intn(4) > 0 {
			epoch = last.Epoch + r.Intn(3)
			offset = min(last.Start+int64(r.Intn(8)), offsets-1)
		}
		if err, want := e.Begin(epoch, offset), m.begin(epoch, offset); err != want {
			t.Fatalf("Begin(%d, %d): %v, not %v", epoch, offset, err, want)
		}
	}
}

// somePairs is a piece of the lineage, that may have been changed a little, and where it ends.
func somePairs(r *rand.Rand, m *model) ([]api.Pair, int64) {
	from := int64(r.Intn(offsets))
	end := from + int64(r.Intn(10))
	l := m.runs(from, end)
	for i := range l {
		switch r.Intn(8) {
		case 0:
			l[i].Epoch += r.Intn(3) - 1
		case 1:
			l[i].Start += int64(r.Intn(3) - 1)
		}
	}
	if r.Intn(8) == 0 && len(l) > 0 {
		i := r.Intn(len(l))
		l = slices.Delete(l, i, i+1)
	}
	return slices.DeleteFunc(l, func(x api.Pair) bool { return x.Epoch < 0 || x.Start < 0 }), min(end, offsets)
}

// agree holds what both tell against each other.
func agree(t *testing.T, r *rand.Rand, e *epoch.Line, m *model) {
	t.Helper()
	has(t, e, m.runs(0, offsets)...)
	for o := range int64(offsets) {
		got, is := e.At(o)
		if is != (m[o] != nobody) || is && got != m[o] || !is && got != 0 {
			t.Fatalf("At(%d) = %d, %v: %v", o, got, is, m)
		}
	}
	for epoch := range 50 {
		got, at, is := e.End(epoch, 99)
		if want, end, there := m.end(epoch, 99); got != want || at != end || is != there {
			t.Fatalf("End(%d, 99) = %d, %d, %v: %v", epoch, got, at, is, m)
		}
	}
	from, to := int64(r.Intn(offsets+2))-1, int64(r.Intn(offsets+2))-1
	if got, want := e.Span(from, to), m.runs(from, to); !slices.Equal(got, want) {
		t.Fatalf("Span(%d, %d): %v, not %v", from, to, got, want)
	}
	for range 20 {
		l, end := somePairs(r, m)
		whole := end + int64(r.Intn(5)) - 1
		if got, want := e.Has(l, end, whole), m.has(l, end, whole); got != want {
			t.Fatalf("Has(%v, %d, %d) = %v: %v", l, end, whole, got, m)
		}
	}
}

// P9.1 to P9.4, of any calls one behind the other

func TestAnyCallsAgainstTheModel(t *testing.T) {
	r := rand.New(rand.NewSource(9))
	for range 400 {
		e, m := made(t), newModel()
		for range 40 {
			change(t, r, e, m)
			agree(t, r, e, m)
			switch r.Intn(10) {
			case 0:
				e = read(t, e.Bytes())
			case 1:
				e = made(t, e.Pairs()...)
			case 2:
				old := e
				e = e.Clone()
				change(t, r, old, newModelOf(old))
			}
		}
	}
}

// newModelOf is a model of what a lineage tells.
func newModelOf(e *epoch.Line) *model {
	m := newModel()
	for _, x := range e.Pairs() {
		m.begin(x.Epoch, x.Start)
	}
	return m
}

// What the model tells of a few cases is what the document has for them.
func TestModel(t *testing.T) {
	m := newModelOf(three(t))
	if l := m.runs(7, 12); !slices.Equal(l, []api.Pair{p(1, 7), p(3, 10)}) {
		t.Error(l)
	}
	m.cutEnd(20)
	if l := m.runs(0, offsets); !slices.Equal(l, []api.Pair{p(1, 5), p(3, 10)}) {
		t.Error(l)
	}
	m.cutStart(11)
	if l := m.runs(0, offsets); !slices.Equal(l, []api.Pair{p(3, 11)}) {
		t.Error(l)
	}
	if got, end, is := m.end(5, 77); got != 3 || end != 77 || !is {
		t.Error(got, end, is)
	}
	m.cutEnd(11)
	if l := m.runs(0, offsets); len(l) > 0 {
		t.Error(l)
	}
}
