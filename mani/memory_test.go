package mani_test

import (
	"slices"
	"testing"

	"cordwood/api"
	"cordwood/mani"
)

var (
	sparePair   = p(-77, -77)
	spareObject = o("spare", -77, 77)
)

// spared is m in memory of its own, with other pairs and objects behind the length of its lists.
func spared(m api.Manifest) api.Manifest {
	m.Epochs = append(slices.Clone(m.Epochs), sparePair, sparePair)[:len(m.Epochs)]
	m.Objects = append(slices.Clone(m.Objects), spareObject, spareObject)[:len(m.Objects)]
	return m
}

// isWhole tells whether a manifest that was spared is what it was, and what is behind its lists.
func isWhole(m, was api.Manifest) bool {
	pairs, things := len(m.Epochs), len(m.Objects)
	return alike(m, was) &&
		slices.Equal(m.Epochs[pairs:pairs+2], []api.Pair{sparePair, sparePair}) &&
		slices.Equal(m.Objects[things:things+2], []api.Object{spareObject, spareObject})
}

// spoil writes into all memory of a list that was handed out.
func spoil[T any](l []T, with T) {
	l = l[:cap(l)]
	for i := range l {
		l[i] = with
	}
}

// spoilManifest writes into all memory of one that was handed out.
func spoilManifest(m api.Manifest) {
	spoil(m.Epochs, sparePair)
	spoil(m.Objects, spareObject)
}

// all are manifests that may be and that may not, and such as have empty lists.
func all() []api.Manifest {
	l := append(some(), api.Manifest{}, api.Manifest{Epochs: []api.Pair{}, Objects: []api.Object{}})
	for _, clause := range faults() {
		for _, x := range clause {
			l = append(l, with(func(m *api.Manifest) { m.Objects = objects(4) }, x.do))
		}
	}
	return l
}

// No call changes a manifest that it is handed, or what lies behind its lists, or asks for that.
func TestManifestsHandedInAreLeft(t *testing.T) {
	for _, was := range all() {
		m, other := spared(was), spared(was)
		err := mani.Valid(m)
		b, bytesErr := mani.Bytes(m)
		names := mani.Names(m)
		same := mani.Same(m, other)
		c := mani.Clone(m)
		if !isWhole(m, was) || !isWhole(other, was) {
			t.Errorf("%+v is changed: %+v, %+v", was, m, other)
		}
		wantErr := mani.Valid(was)
		if (err == nil) != (wantErr == nil) || err != nil && (err.Error() != wantErr.Error() || bytesErr.Error() != err.Error()) {
			t.Errorf("%+v: %v, %v, not %v", was, err, bytesErr, wantErr)
		}
		if err == nil && string(b) != string(told(was)) || !slices.Equal(names, mani.Names(was)) || !same || !alike(c, was) {
			t.Errorf("%+v: %v, %v, %v, %+v", was, b, names, same, c)
		}
	}
}

func TestClonesAreNobodyElses(t *testing.T) {
	for _, was := range all() {
		m := spared(was)
		c, d := mani.Clone(m), mani.Clone(m)
		spoilManifest(c)
		_ = append(c.Epochs, sparePair)
		_ = append(c.Objects, spareObject)
		if !isWhole(m, was) || !alike(d, was) {
			t.Errorf("of the clone: %+v, %+v", m, d)
		}
		spoilManifest(m)
		if !alike(d, was) {
			t.Errorf("of the other one: %+v", d)
		}
	}
}

func TestMakesAreNobodyElses(t *testing.T) {
	pairs := append(two().Epochs, sparePair, sparePair)
	data, marks := []byte("data, and behind"), []byte("marks, and behind")
	made := func() api.Manifest {
		m, err := mani.Make(7, 10, 20, 5, pairs[:2], data[:4], marks[:5])
		if err != nil {
			t.Fatal(err)
		}
		return m
	}
	m, n := made(), made()
	want := api.Manifest{
		ID: 7, Base: 10, End: 20, Time: 5, Epochs: two().Epochs,
		Objects: []api.Object{o("seg-0000000007-data-0000000000010", 4, sum([]byte("data"))), o("seg-0000000007-marks-0000000000010", 5, sum([]byte("marks")))},
	}
	if !alike(m, want) || !alike(n, want) {
		t.Errorf("what lies behind counts: %+v, %+v", m, n)
	}
	spoilManifest(m)
	if !slices.Equal(pairs, append(two().Epochs, sparePair, sparePair)) || string(data) != "data, and behind" || string(marks) != "marks, and behind" {
		t.Errorf("what was handed in is changed: %v, %q, %q", pairs, data, marks)
	}
	spoil(pairs, p(1, 1))
	spoil(data, 0)
	spoil(marks, 0)
	if !alike(n, want) {
		t.Errorf("what was handed in is kept: %+v", n)
	}
	refused := append(two().Epochs, sparePair)
	if m, err := mani.Make(7, 10, 15, 5, refused[:2], nil, nil); !isNothing(m) || err != api.ErrShape || !slices.Equal(refused, append(two().Epochs, sparePair)) {
		t.Errorf("%+v, %v, %v", m, err, refused)
	}
}

func TestBytesAreNobodyElses(t *testing.T) {
	for _, was := range some() {
		m := spared(was)
		b, _ := mani.Bytes(m)
		c, _ := mani.Bytes(m)
		spoil(b, 0xee)
		if !isWhole(m, was) || string(c) != string(told(was)) {
			t.Errorf("%+v: %+v, %v", was, m, c)
		}
		spoilManifest(m)
		if string(c) != string(told(was)) {
			t.Errorf("%+v: %v", was, c)
		}
	}
}

func TestWhatIsReadIsNobodyElses(t *testing.T) {
	for _, was := range some() {
		whole := told(was)
		in := append(slices.Clone(whole), "behind"...)
		m, err := mani.Read(in[:len(whole)])
		n, again := mani.Read(in[:len(whole)])
		if err != nil || again != nil || !alike(m, was) || !alike(n, was) || string(in) != string(whole)+"behind" {
			t.Errorf("%+v: %+v, %v, %+v, %v", was, m, err, n, again)
		}
		spoilManifest(m)
		if !alike(n, was) || string(in) != string(whole)+"behind" {
			t.Errorf("of another one that was read: %+v", n)
		}
		spoil(in, 0xee)
		if !alike(n, was) {
			t.Errorf("of the bytes: %+v", n)
		}
	}
	for _, b := range [][]byte{told(two())[:9], sealed([]byte{7, 10, 0x80, 0}), sealed(append(laid(fields(two())), 1)), sealed([]byte{7, 10, 9, 10, 0, 0})} {
		in := append(slices.Clone(b), "behind"...)
		_, err := mani.Read(in[:len(b)])
		_, want := mani.Read(b)
		if err == nil || want == nil || err.Error() != want.Error() || string(in) != string(b)+"behind" {
			t.Errorf("%v: %v, not %v", b, err, want)
		}
	}
}

func TestNamesAreNobodyElses(t *testing.T) {
	for _, was := range some() {
		m := spared(was)
		first, second := mani.Names(m), mani.Names(m)
		want := slices.Clone(first)
		spoil(first, "spare")
		_ = append(first, "spare")
		if !isWhole(m, was) || !slices.Equal(second, want) {
			t.Errorf("%+v: %v, not %v", m, second, want)
		}
		spoilManifest(m)
		if !slices.Equal(second, want) {
			t.Errorf("%v, not %v", second, want)
		}
	}
}

func TestCheckLeavesTheBytes(t *testing.T) {
	all := []byte("data, and behind")
	of := o("a", 4, sum([]byte("data")))
	for n, want := range map[int]error{3: api.ErrShape, 4: nil, 5: api.ErrShape} {
		if err := mani.Check(of, all[:n]); err != want || string(all) != "data, and behind" {
			t.Errorf("%d: %v, %q", n, err, all)
		}
	}
	of.Sum++
	if err := mani.Check(of, all[:4]); err != api.ErrSum || string(all) != "data, and behind" {
		t.Errorf("%v, %q", err, all)
	}
}

// What is told of one error is nobody else's either.
func TestErrorsAreNobodyElses(t *testing.T) {
	bad := with(func(m *api.Manifest) { m.Objects[1].Name = "" })
	first, _ := mani.Valid(bad).(*api.At)
	if first == nil {
		t.Fatal("no place")
	}
	first.Pos, first.Err = 99, nil
	mayNot(t, bad, api.ErrName, 1)
}
