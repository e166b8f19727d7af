package hot_test

import (
	"fmt"
	"math/rand"
	"slices"
	"testing"

	"cordwood/api"
	"cordwood/disk"
	"cordwood/hot"
	"cordwood/rec"
)

// P10.1 to P10.4: logs held against plain lists of batches, any calls one behind the other, through crashes.

// model is a log's segments; all of them but the last one's batches behind synced are synced.
type model struct {
	d      *disk.Disk
	h      *hot.Log
	size   int
	pieces []piece
	synced int64
	met    map[string]int // how often what was done came to what
}

func (m *model) batches() []api.Batch {
	var all []api.Batch
	for _, p := range m.pieces {
		all = append(all, p.l...)
	}
	return all
}

func (m *model) end() int64 {
	if len(m.pieces) == 0 {
		return 0
	}
	return m.pieces[len(m.pieces)-1].end()
}

func (m *model) epoch() int {
	all := m.batches()
	if len(all) == 0 {
		return 0
	}
	return all[len(all)-1].Epoch
}

// step does one thing, most of them right. If the power is gone behind it, it crashes, and is opened anew.
func (m *model) step(t *testing.T, r *rand.Rand) {
	t.Helper()
	switch k := r.Intn(20); {
	case k == 0 || len(m.pieces) == 0 && k < 15:
		m.begins(t, r.Int63n(40)-1)
	case k == 1:
		m.h = nil
		m.crashes(t, r, m.pieces, m.synced, "at rest")
	case k < 4:
		m.ended(t, r, "Flush", m.h.Flush(), nil, m.pieces, m.end(), m.synced)
	case k == 4:
		m.drops(t, r)
	case k < 8:
		m.cuts(t, r)
	default:
		m.appends(t, r)
	}
}

func (m *model) begins(t *testing.T, base int64) {
	t.Helper()
	var want error
	switch {
	case len(m.pieces) > 0:
		want = api.ErrState
	case base < 0:
		want = api.ErrRange
	}
	m.d.Arm(0)
	if err := m.h.Begin(base); err != want {
		t.Fatal("Begin", base, err, want)
	} else if err == nil {
		m.pieces, m.synced = []piece{{base: base}}, base
	}
}

func (m *model) drops(t *testing.T, r *rand.Rand) {
	t.Helper()
	if len(m.pieces) < 2 {
		m.ended(t, r, "Drop", m.h.Drop(), api.ErrNone, nil, 0, m.synced)
		return
	}
	m.ended(t, r, "Drop", m.h.Drop(), nil, m.pieces[1:], m.synced, m.synced)
}

func (m *model) cuts(t *testing.T, r *rand.Rand) {
	t.Helper()
	offset := m.end() - r.Int63n(30) + 1
	want := error(nil)
	pieces, is := cut(m.pieces, offset)
	synced := min(offset, m.synced)
	switch {
	case !is:
		want = api.ErrOutside
	case offset < m.end():
		synced = offset // what is left of the segment is synced by the cut
	}
	m.ended(t, r, "CutEnd", m.h.CutEnd(offset), want, pieces, synced, min(offset, m.synced))
}

func (m *model) appends(t *testing.T, r *rand.Rand) {
	t.Helper()
	b := batch(m.end()+r.Int63n(15)/14-r.Int63n(15)/14, max(0, m.epoch()+r.Intn(10)/9-r.Intn(15)/14), 1+r.Intn(6))
	if len(m.pieces) == 0 {
		m.ended(t, r, "Append", m.h.Append(b), api.ErrNone, nil, 0, 0)
		return
	}
	if b.Base < 0 {
		m.ended(t, r, "Append", m.h.Append(b), api.ErrRange, nil, 0, m.synced)
		return
	}
	if b.Base != m.end() || b.Epoch < m.epoch() {
		m.ended(t, r, "Append", m.h.Append(b), api.ErrShape, nil, 0, m.synced)
		return
	}
	pieces, synced := slices.Clone(m.pieces), m.synced
	last := &pieces[len(pieces)-1]
	if size := len(join(t, last.l...)); size > 0 && size+rec.Size(b) > m.size {
		pieces, synced = append(pieces, piece{base: b.Base}), b.Base
		last = &pieces[len(pieces)-1]
	}
	last.l = append(slices.Clone(last.l), b)
	// Where it crashes, what came to be is all that there may be.
	m.ended(t, r, "Append", m.h.Append(b), nil, pieces, synced, m.synced)
}

// ended holds a call's error against the one that is to be: without an error the log has these pieces; if the power is gone, what it had, or these, cut at least at there.
func (m *model) ended(t *testing.T, r *rand.Rand, what string, err, want error, pieces []piece, synced, least int64) {
	t.Helper()
	switch {
	case err == nil && want == nil:
		m.pieces, m.synced = pieces, synced
		m.met[what]++
	case err == api.ErrCrash && want == nil:
		if what != "Append" { // all that was is there, or some of it
			pieces = m.pieces
		}
		m.met[what+" crashed"]++
		m.crashes(t, r, pieces, least, what)
	case err != want:
		t.Fatalf("%s: %v, not %v", what, err, want)
	default:
		m.met[what+" refused"]++
	}
}

// crashes lets the power go and come back, and opens the log, that is to have these pieces, cut at least at there; if its first one was being dropped, without it.
func (m *model) crashes(t *testing.T, r *rand.Rand, pieces []piece, least int64, what string) {
	t.Helper()
	starts := []int64{0}
	if len(pieces) > 0 {
		starts[0] = pieces[0].base
	}
	if what == "Drop" {
		starts = append(starts, pieces[1].base)
	}
	all := model{pieces: pieces}
	m.d.Crash(r.Intn(4), r.Intn(300)*r.Intn(2), r.Intn(300), r.Intn(300)-1, r.Intn(300), r.Intn(300))
	m.h = holdsLeft(t, what, m.d, m.size, left{all.batches(), starts, least})
	m.met["left "+fmt.Sprint(m.h.End() > least, m.h.End() < all.end())]++
	m.pieces = nil
	for _, x := range m.h.Segs() {
		var l []api.Batch
		for _, b := range all.batches() {
			if x[0] <= b.Base && b.Base < x[1] {
				l = append(l, b)
			}
		}
		m.pieces = append(m.pieces, piece{x[0], l})
	}
	m.synced = m.end()
}

func TestModel(t *testing.T) {
	r := rand.New(rand.NewSource(10))
	met := map[string]int{}
	for round := range 150 {
		d := newDisk(t)
		size := []int{1, 60, 150, 400}[round%4]
		m := &model{d: d, h: opened(t, d, size), size: size, met: met}
		for range 80 {
			if r.Intn(12) == 0 {
				d.Arm(r.Intn(6))
			}
			m.step(t, r)
			if !t.Failed() {
				holds(t, fmt.Sprint("round ", round), m.h, m.synced, m.pieces...)
				files(t, fmt.Sprint("round ", round), d, m.pieces)
			}
		}
		if t.Failed() {
			t.FailNow()
		}
	}
	for _, what := range []string{"Append", "Flush", "CutEnd", "Drop"} {
		for _, how := range []string{"", " crashed", " refused"} {
			if met[what+how] < 5 && what+how != "Flush refused" {
				t.Error("hardly ever met: ", what+how, met[what+how])
			}
		}
	}
	for _, what := range []string{"left true true", "left true false", "left false true", "left false false"} {
		if met[what] < 5 {
			t.Error("hardly ever met: ", what, met[what])
		}
	}
}
