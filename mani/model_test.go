package mani_test

import (
	"encoding/binary"
	"math"
	"math/rand"
	"strings"
	"testing"

	"cordwood/api"
	"cordwood/mani"
)

// plainPairs is what is told of a manifest's pairs, clause by clause.
func plainPairs(m api.Manifest) error {
	l := m.Epochs
	if len(l) > 256 {
		return api.ErrMany
	}
	rise := true
	for i, x := range l {
		if x.Epoch < 0 || x.Epoch > 1<<30 || x.Start < 0 || x.Start > 1<<40 {
			return api.ErrRange
		}
		rise = rise && (i == 0 || x.Epoch > l[i-1].Epoch && x.Start > l[i-1].Start)
	}
	if !rise || len(l) == 0 || l[0].Start != m.Base || l[len(l)-1].Start >= m.End {
		return api.ErrShape
	}
	return nil
}

// plainValid is what Valid comes to, clause by clause.
func plainValid(m api.Manifest) (error, int) {
	if m.ID < 0 || m.ID >= 1<<31 || m.Base < 0 || m.End > 1<<40 || m.End <= m.Base || m.Time < -1<<40 || m.Time > 1<<40 {
		return api.ErrRange, -1
	}
	if err := plainPairs(m); err != nil {
		return err, -1
	}
	if len(m.Objects) < 1 || len(m.Objects) > 8 {
		return api.ErrMany, -1
	}
	for i, x := range m.Objects {
		if x.Name == "" || len(x.Name) > 64 || strings.Trim(x.Name, "abcdefghijklmnopqrstuvwxyz0123456789.-_") != "" {
			return api.ErrName, i
		}
		if x.Len < 0 || x.Len > 1<<30 {
			return api.ErrRange, i
		}
	}
	for i, x := range m.Objects {
		for _, y := range m.Objects[:i] {
			if x.Name == y.Name {
				return api.ErrShape, -1
			}
		}
	}
	return nil, -1
}

// plainReader reads numbers by the library.
type plainReader struct {
	b   []byte
	at  int
	err error
	pos int
}

func (r *plainReader) fail(err error, pos int) {
	if r.err == nil {
		r.err, r.pos = err, pos
	}
}

func (r *plainReader) number(from, to int64, signed bool) int64 {
	if r.err != nil {
		return 0
	}
	b := r.b[r.at:]
	n, size := binary.Uvarint(b)
	is := int64(n)
	if signed {
		is, _ = binary.Varint(b)
	}
	switch {
	case size == 0 && len(b) < binary.MaxVarintLen64:
		r.fail(api.ErrEnd, -1)
	case size <= 0 || size > 1 && b[size-1] == 0:
		r.fail(api.ErrShape, r.at)
	case !signed && n > math.MaxInt64 || is < from || is > to:
		r.fail(api.ErrRange, r.at)
	}
	if r.err != nil {
		return 0
	}
	r.at += size
	return is
}

func (r *plainReader) text(most int64) string {
	n := int(r.number(0, most, false))
	if r.err == nil && n > len(r.b)-r.at {
		r.fail(api.ErrEnd, -1)
	}
	if r.err != nil {
		return ""
	}
	r.at += n
	return string(r.b[r.at-n : r.at])
}

// plainRead is what Read comes to of b, sealed.
func plainRead(b []byte) (api.Manifest, error, int) {
	const most = 1 << 62
	r := &plainReader{b: b}
	var m api.Manifest
	m.ID = int(r.number(0, most, false))
	m.Base = r.number(0, most, false)
	m.End = r.number(0, most, false)
	m.Time = r.number(-most, most, true)
	for range r.number(0, 256, false) {
		epoch := r.number(0, most, false)
		m.Epochs = append(m.Epochs, p(int(epoch), r.number(0, most, false)))
	}
	for range r.number(0, 8, false) {
		name := r.text(64)
		size := r.number(0, most, false)
		m.Objects = append(m.Objects, o(name, int(size), uint32(r.number(0, 1<<32-1, false))))
	}
	if r.err == nil && r.at < len(b) {
		r.fail(api.ErrShape, r.at)
	}
	if r.err == nil {
		r.fail(plainValid(m))
	}
	if r.err != nil {
		return api.Manifest{}, r.err, r.pos
	}
	return m, nil, -1
}

// anyOf are manifests of numbers around the bounds; more of them are right, the greater right is.
func anyOf(r *rand.Rand, right int) api.Manifest {
	odd := func() bool { return r.Intn(right) == 0 }
	pick := func(l ...int64) int64 { return l[r.Intn(len(l))] }
	edges := func(n, most int64) int64 {
		if odd() {
			return pick(-1, 0, 1, n-1, n+1, most-1, most, most+1, 1<<62, 1<<62+1, math.MinInt64, math.MaxInt64)
		}
		return n
	}
	base := pick(0, 1, 127, 300, 1<<30, api.MaxOffset-40)
	m := api.Manifest{
		ID: int(edges(pick(0, 7, 300, maxID), maxID)), Base: edges(base, api.MaxOffset),
		Time: edges(pick(0, -5, 700, api.MaxTime, -api.MaxTime), api.MaxTime),
	}
	epoch, start := pick(0, 1, 500, api.MaxEpoch-40), base
	for range 1 + r.Intn(4) {
		m.Epochs = append(m.Epochs, p(int(edges(epoch, api.MaxEpoch)), edges(start, api.MaxOffset)))
		epoch, start = epoch+pick(1, 1, 2, 9), start+pick(1, 1, 3, 9)
	}
	m.End = edges(start, api.MaxOffset)
	if odd() {
		m.Epochs = nil
	}
	for i := range 1 + r.Intn(api.MaxObjects) {
		name := strings.Repeat(string(rune('a'+i)), 1+r.Intn(api.MaxName))
		if odd() {
			name = []string{"", "A", "a b", "x", "xy", "x", strings.Repeat("n", api.MaxName+1)}[r.Intn(7)]
		}
		m.Objects = append(m.Objects, o(name, int(edges(pick(0, 1, 200, maxLen), maxLen)), uint32(pick(0, 9, 1<<31, math.MaxUint32))))
	}
	if odd() {
		m.Objects = append(m.Objects, objects(r.Intn(api.MaxObjects+1))...)
	}
	return m
}

func TestAnyManifests(t *testing.T) {
	r := rand.New(rand.NewSource(14))
	may, mayNotBe := 0, 0
	for range 60000 {
		m := anyOf(r, 2+r.Intn(60))
		if want, pos := plainValid(m); want != nil {
			mayNotBe++
			mayNot(t, m, want, pos)
		} else {
			may++
			mayBe(t, m)
		}
		if t.Failed() {
			return
		}
	}
	if may < 5000 || mayNotBe < 5000 {
		t.Error("too few of one kind:", may, mayNotBe)
	}
}

// Bytes of manifests, one thing of them changed, or none, and sealed again.
func TestAnyBytes(t *testing.T) {
	r := rand.New(rand.NewSource(15))
	read, not := 0, 0
	for range 100000 {
		b := laid(fields(anyOf(r, 20+r.Intn(200))))
		switch r.Intn(6) {
		case 0:
			b = b[:r.Intn(len(b)+1)]
		case 1:
			b[r.Intn(len(b))] = byte(r.Intn(256))
		case 2:
			b[r.Intn(len(b))] ^= 1 << r.Intn(8)
		case 3:
			b = append(b, byte(r.Intn(256)))
		case 4:
			at := r.Intn(len(b))
			b = append(b[:at], b[at+1:]...)
		}
		want, wantErr, pos := plainRead(b)
		m, err := mani.Read(sealed(b))
		if !alike(m, want) || !isError(err, wantErr, pos) {
			t.Fatalf("%v: %#v, %v, not %#v, %v at %d", b, m, err, want, wantErr, pos)
		}
		if err != nil {
			not++
			continue
		}
		read++
		if again, err := mani.Bytes(m); err != nil || string(again) != string(sealed(b)) {
			t.Fatalf("%v: %v, %v", b, again, err)
		}
	}
	if read < 5000 || not < 5000 {
		t.Error("too few of one kind:", read, not)
	}
}
