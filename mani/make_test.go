package mani_test

import (
	"fmt"
	"hash/crc32"
	"math"
	"slices"
	"testing"

	"cordwood/api"
	"cordwood/mani"
)

// sum is the sum of b by the library.
func sum(b []byte) uint32 { return crc32.Checksum(b, crc32.MakeTable(crc32.Castagnoli)) }

// text is n bytes, of which no two pieces nearby are the same.
func text(n int) []byte {
	b := make([]byte, n)
	for i := range b {
		b[i] = byte(i*7 + i/256*3 + i/65536 + 1)
	}
	return b
}

// P14.1: Make

func TestMake(t *testing.T) {
	for _, x := range []struct {
		id              int
		base, end, time int64
		pairs           []api.Pair
		data, marks     string
		want            api.Manifest
	}{
		{7, 10, 20, 5, []api.Pair{p(2, 10), p(3, 15)}, "data", "123456789", api.Manifest{
			ID: 7, Base: 10, End: 20, Time: 5, Epochs: []api.Pair{p(2, 10), p(3, 15)},
			Objects: []api.Object{o("seg-0000000007-data-0000000000010", 4, 0xaed87dd1), o("seg-0000000007-marks-0000000000010", 9, 0xe3069283)},
		}},
		{0, 0, 1, 0, []api.Pair{p(0, 0)}, "", "", api.Manifest{
			End: 1, Epochs: []api.Pair{p(0, 0)},
			Objects: []api.Object{o("seg-0000000000-data-0000000000000", 0, 0), o("seg-0000000000-marks-0000000000000", 0, 0)},
		}},
		{maxID, api.MaxOffset - 1, api.MaxOffset, -api.MaxTime, []api.Pair{p(api.MaxEpoch, api.MaxOffset-1)}, "a", "abc", api.Manifest{
			ID: maxID, Base: api.MaxOffset - 1, End: api.MaxOffset, Time: -api.MaxTime, Epochs: []api.Pair{p(api.MaxEpoch, api.MaxOffset-1)},
			Objects: []api.Object{o("seg-2147483647-data-1099511627775", 1, 0xc1d04330), o("seg-2147483647-marks-1099511627775", 3, 0x364b3fb7)},
		}},
	} {
		m, err := mani.Make(x.id, x.base, x.end, x.time, x.pairs, []byte(x.data), []byte(x.marks))
		if err != nil || !alike(m, x.want) {
			t.Errorf("%+v, %v, not %+v", m, err, x.want)
		}
		mayBe(t, m)
	}
}

// Lengths and sums are those of the bytes of each object, and the data is the first one.
func TestMakeOfBytes(t *testing.T) {
	for _, sizes := range [][2]int{{0, 0}, {0, 1}, {1, 0}, {5, 5}, {1, 300}, {300, 1}, {1 << 16, 1<<16 + 1}, {1 << 20, 9}} {
		data, marks := text(sizes[0]), text(sizes[1])
		m, err := mani.Make(300, 400, 500, 600, []api.Pair{p(1, 400)}, data, marks)
		want := api.Manifest{
			ID: 300, Base: 400, End: 500, Time: 600, Epochs: []api.Pair{p(1, 400)},
			Objects: []api.Object{o("seg-0000000300-data-0000000000400", len(data), sum(data)), o("seg-0000000300-marks-0000000000400", len(marks), sum(marks))},
		}
		if err != nil || !alike(m, want) {
			t.Errorf("%v: %+v, %v", sizes, m, err)
			continue
		}
		for i, b := range [][]byte{data, marks} {
			if err := mani.Check(m.Objects[i], b); err != nil {
				t.Errorf("%v, %d: %v", sizes, i, err)
			}
		}
	}
	m, err := mani.Make(1, 2, 3, 4, []api.Pair{p(1, 2)}, nil, []byte{})
	if err != nil || m.Objects[0].Len != 0 || m.Objects[0].Sum != 0 || m.Objects[1].Len != 0 || m.Objects[1].Sum != 0 {
		t.Errorf("%+v, %v", m, err)
	}
}

func TestMakeRefused(t *testing.T) {
	one, ten := []api.Pair{p(1, 0)}, []api.Pair{p(1, 10)}
	for _, x := range []struct {
		id              int
		base, end, time int64
		pairs           []api.Pair
		want            error
	}{
		{-1, 10, 20, 5, ten, api.ErrRange}, // the name of its objects would be empty
		{math.MinInt, 10, 20, 5, ten, api.ErrRange},
		{maxID + 1, 10, 20, 5, ten, api.ErrRange},
		{math.MaxInt, 10, 20, 5, ten, api.ErrRange},
		{7, -1, 20, 5, ten, api.ErrRange},
		{7, math.MinInt64, math.MaxInt64, 5, ten, api.ErrRange},
		{7, api.MaxOffset + 1, api.MaxOffset + 2, 5, ten, api.ErrRange},
		{7, api.MaxOffset, api.MaxOffset + 1, 5, []api.Pair{p(1, api.MaxOffset)}, api.ErrRange},
		{7, 10, 10, 5, ten, api.ErrRange},
		{7, 10, 9, 5, ten, api.ErrRange},
		{7, 10, -1, 5, ten, api.ErrRange},
		{7, 10, api.MaxOffset + 1, 5, ten, api.ErrRange},
		{7, 10, 20, api.MaxTime + 1, ten, api.ErrRange},
		{7, 10, 20, -api.MaxTime - 1, ten, api.ErrRange},
		{7, 10, 20, math.MinInt64, ten, api.ErrRange},
		{0, 0, 0, 0, one, api.ErrRange},
		{-1, 0, 1, 0, nil, api.ErrRange},
		{-1, -1, -1, 0, make([]api.Pair, api.MaxEpochs+1), api.ErrRange},
		{7, 10, 20, 5, nil, api.ErrShape},
		{7, 10, 20, 5, one, api.ErrShape},
		{7, 10, 20, 5, []api.Pair{p(1, 11)}, api.ErrShape},
		{7, 10, 20, 5, []api.Pair{p(1, 10), p(2, 20)}, api.ErrShape},
		{7, 10, 20, 5, []api.Pair{p(1, 10), p(1, 11)}, api.ErrShape},
		{7, 10, 20, 5, []api.Pair{p(-1, 10)}, api.ErrRange},
		{7, 10, 20, 5, []api.Pair{p(1, 10), p(2, api.MaxOffset+1)}, api.ErrRange},
		{7, 10, 2000, 5, rising(api.MaxEpochs+1, 10), api.ErrMany},
	} {
		m, err := mani.Make(x.id, x.base, x.end, x.time, x.pairs, []byte("data"), []byte("marks"))
		if !isNothing(m) || err != x.want {
			t.Errorf("%+v: %+v, %v", x, m, err)
		}
	}
}

// P14.2: Same, Clone, Names, Check

// changes are what may be changed of two, one thing alone each.
func changes() []func(m *api.Manifest) {
	return []func(m *api.Manifest){
		func(m *api.Manifest) { m.ID++ },
		func(m *api.Manifest) { m.Base++ },
		func(m *api.Manifest) { m.End++ },
		func(m *api.Manifest) { m.Time++ },
		func(m *api.Manifest) { m.Time = -m.Time },
		func(m *api.Manifest) { m.Epochs[0].Epoch-- },
		func(m *api.Manifest) { m.Epochs[0].Start-- },
		func(m *api.Manifest) { m.Epochs[1].Epoch++ },
		func(m *api.Manifest) { m.Epochs[1].Start++ },
		func(m *api.Manifest) { m.Epochs = m.Epochs[:1] },
		func(m *api.Manifest) { m.Epochs = m.Epochs[1:] },
		func(m *api.Manifest) { m.Epochs = nil },
		func(m *api.Manifest) { m.Epochs = append(m.Epochs, p(0, 0)) },
		func(m *api.Manifest) { slices.Reverse(m.Epochs) },
		func(m *api.Manifest) { m.Objects[0].Name = "c" },
		func(m *api.Manifest) { m.Objects[0].Name = "A" },
		func(m *api.Manifest) { m.Objects[0].Name = "" },
		func(m *api.Manifest) { m.Objects[0].Len++ },
		func(m *api.Manifest) { m.Objects[0].Sum++ },
		func(m *api.Manifest) { m.Objects[1].Name += "b" },
		func(m *api.Manifest) { m.Objects[1].Len-- },
		func(m *api.Manifest) { m.Objects[1].Sum-- },
		func(m *api.Manifest) { m.Objects = m.Objects[:1] },
		func(m *api.Manifest) { m.Objects = m.Objects[1:] },
		func(m *api.Manifest) { m.Objects = nil },
		func(m *api.Manifest) { m.Objects = append(m.Objects, api.Object{}) },
		func(m *api.Manifest) { slices.Reverse(m.Objects) },
	}
}

func TestSame(t *testing.T) {
	l := []api.Manifest{{}, two(), full(), least(), {ID: math.MinInt, Base: 5, End: math.MinInt64, Time: math.MaxInt64}}
	for _, do := range changes() {
		l = append(l, with(do))
	}
	for i, a := range l {
		for j, b := range l {
			if got := mani.Same(a, b); got != (i == j) {
				t.Errorf("Same(%+v, %+v) = %v", a, b, got)
			}
		}
		if c := mani.Clone(a); !mani.Same(a, c) || !mani.Same(c, a) || !alike(a, c) {
			t.Errorf("the clone of %+v: %+v", a, c)
		}
	}
	if !mani.Same(two(), two()) || !mani.Same(full(), full()) {
		t.Error("those that share no memory are not the same")
	}
}

func TestSameOfEmptyLists(t *testing.T) {
	m := api.Manifest{ID: 3}
	n := api.Manifest{ID: 3, Epochs: []api.Pair{}, Objects: make([]api.Object, 0, 5)}
	if !mani.Same(m, n) || !mani.Same(n, m) || !mani.Same(mani.Clone(n), m) || !mani.Same(n, mani.Clone(m)) {
		t.Error("nil and the empty list are not the same")
	}
}

// What is done to a clone is not to be seen in what it is of, nor the other way round, nor in another clone.
func TestClone(t *testing.T) {
	for i, do := range changes() {
		m := two()
		c, d := mani.Clone(m), mani.Clone(m)
		do(&c)
		if !alike(m, two()) || !alike(d, two()) || alike(c, two()) {
			t.Errorf("%d: of the clone: %+v, %+v, %+v", i, m, c, d)
		}
		m = two()
		c = mani.Clone(m)
		do(&m)
		if !alike(c, two()) || alike(m, two()) {
			t.Errorf("%d: of the other one: %+v, %+v", i, m, c)
		}
	}
}

func TestNames(t *testing.T) {
	for _, want := range [][]string{nil, {"a"}, {"a", "b"}, {"b", "a"}, {"z", "a", "m"}, {"a", "a", ""}, {"A b", "\xff", "a"}} {
		var m api.Manifest
		for _, name := range want {
			m.Objects = append(m.Objects, o(name, -1, 5))
		}
		if got := mani.Names(m); !slices.Equal(got, want) {
			t.Errorf("%q, not %q", got, want)
		}
	}
	many := api.Manifest{Objects: objects(100)}
	for i, name := range mani.Names(many) {
		if name != fmt.Sprint("x", i) {
			t.Error(i, name)
		}
	}
	if n := len(mani.Names(many)); n != 100 {
		t.Error(n)
	}
}

// The chapter's example among others.
func TestCheck(t *testing.T) {
	of := func(s string) api.Object { return o("a", len(s), sum([]byte(s))) }
	for _, x := range []struct {
		o    api.Object
		b    string
		want error
	}{
		{of("data"), "data", nil},
		{of("data"), "dat0", api.ErrSum},
		{of("data"), "Data", api.ErrSum},
		{of("data"), "\x00\x00\x00\x00", api.ErrSum},
		{of("data"), "dat", api.ErrShape},
		{of("data"), "datum", api.ErrShape},
		{of("data"), "", api.ErrShape},
		{of(""), "", nil},
		{of(""), "x", api.ErrShape},
		{o("a", 0, 1), "", api.ErrSum},
		{o("a", 4, sum([]byte("dat"))), "dat", api.ErrShape}, // of the same sum
		{o("a", 3, sum([]byte("data"))), "data", api.ErrShape},
		{o("a", -1, 0), "", api.ErrShape},
		{o("a", -4, sum([]byte("data"))), "data", api.ErrShape},
		{o("a", math.MinInt, 0), "", api.ErrShape},
		{o("a", math.MaxInt, 0), "", api.ErrShape},
		{o("a", 1<<32+4, sum([]byte("data"))), "data", api.ErrShape},
		{o("", 4, sum([]byte("data"))), "data", nil}, // of its name nothing is asked
		{o("A", 4, sum([]byte("data"))), "data", nil},
		{api.Object{}, "", nil},
		{api.Object{}, "x", api.ErrShape},
	} {
		if err := mani.Check(x.o, []byte(x.b)); err != x.want {
			t.Errorf("Check(%+v, %q): %v, not %v", x.o, x.b, err, x.want)
		}
	}
	if err := mani.Check(api.Object{}, nil); err != nil {
		t.Error(err)
	}
}

// Each bit of an object's bytes counts, and each length.
func TestCheckOfEachBit(t *testing.T) {
	b := text(60)
	of := o("a", len(b), sum(b))
	for bit := range 8 * len(b) {
		other := slices.Clone(b)
		other[bit/8] ^= 1 << (bit % 8)
		if err := mani.Check(of, other); err != api.ErrSum {
			t.Errorf("%d: %v", bit, err)
		}
	}
	for n := range 2 * len(b) {
		err := mani.Check(of, text(n))
		if n == len(b) && err != nil || n != len(b) && err != api.ErrShape {
			t.Errorf("%d: %v", n, err)
		}
	}
}
