package seg_test

import (
	"fmt"
	"math/rand"
	"slices"
	"testing"

	"cordwood/api"
	"cordwood/disk"
	"cordwood/rec"
	"cordwood/seg"
)

// P7.1, P7.2, P7.3: segments held against a plain list of batches, through crashes.

// model is a segment's batches: so many of them, from the first on, are synced.
type model struct {
	s      *seg.Seg
	base   int64
	l      []api.Batch
	synced int
}

func (m *model) end() int64 {
	if len(m.l) == 0 {
		return m.base
	}
	return rec.Next(m.l[len(m.l)-1])
}

func (m *model) epoch() int {
	if len(m.l) == 0 {
		return 0
	}
	return m.l[len(m.l)-1].Epoch
}

// begins is how many batches are ahead of the offset, if one begins there, or they end there.
func (m *model) begins(offset int64) (int, bool) {
	at := m.base
	for i, b := range m.l {
		if at == offset {
			return i, true
		}
		at += int64(len(b.Records))
	}
	return len(m.l), at == offset
}

// step does one thing to a segment, most of them right, and tells whether the power is gone behind it.
func (m *model) step(t *testing.T, r *rand.Rand) bool {
	t.Helper()
	switch r.Intn(10) {
	case 0:
		err := m.s.Sync()
		if err == nil {
			m.synced = len(m.l)
		}
		return m.failed(t, "Sync", err, nil)
	case 1:
		offset := m.base + r.Int63n(m.end()-m.base+3) - 1
		n, is := m.begins(offset)
		err := m.s.Cut(offset)
		if err == nil {
			m.l, m.synced = m.l[:n], n
		}
		return m.failed(t, "Cut", err, map[bool]error{false: api.ErrOutside}[is])
	case 2, 3, 4, 5:
		b := batch(m.end()+r.Int63n(10)/9-r.Int63n(10)/9, max(0, m.epoch()+r.Intn(8)/6-r.Intn(20)/19), 1+r.Intn(5))
		var want error
		if b.Base < 0 {
			want = api.ErrRange
		} else if b.Base != m.end() || b.Epoch < m.epoch() {
			want = api.ErrShape
		}
		err := m.s.Append(b)
		if err == nil {
			m.l = append(m.l, b)
		}
		return m.failed(t, "Append", err, want)
	default:
		m.reads(t, r)
		return false
	}
}

// failed holds an error against the one that is to be, if there is power, and tells whether it is that there is none.
func (m *model) failed(t *testing.T, what string, err, want error) bool {
	t.Helper()
	if err != want && err != api.ErrCrash || want != nil && err == nil {
		t.Fatalf("%s: %v, not %v", what, err, want)
	}
	return err == api.ErrCrash
}

func (m *model) reads(t *testing.T, r *rand.Rand) {
	t.Helper()
	offset := m.base + r.Int63n(m.end()-m.base+2) - 1 + r.Int63n(2)
	most := r.Intn(m.s.Size() + 50)
	if offset < m.base || offset >= m.end() {
		if l, err := m.s.Read(offset, most); len(l) != 0 || err != api.ErrOutside {
			t.Fatal(offset, err)
		}
		return
	}
	readsAs(t, m.s, m.l, offset, most)
}

// opensAnew opens the segment behind a crash, and holds it against what may be left: what was synced, and some of what was not.
func (m *model) opensAnew(t *testing.T, d *disk.Disk) {
	t.Helper()
	m.s = opened(t, d, m.base)
	n, is := m.begins(m.s.End())
	if !is || n < m.synced {
		t.Fatalf("to %d, %d batches of %d, with %d synced", m.s.End(), n, len(m.l), m.synced)
	}
	m.l, m.synced = m.l[:n], n
	holds(t, "opened anew", m.s, m.base, n, m.l...)
}

func TestModel(t *testing.T) {
	r := rand.New(rand.NewSource(7))
	left := map[string]int{}
	for round := range 60 {
		d := newDisk(t)
		all := []*model{{base: 0}, {base: 10}, {base: api.MaxOffset - 3000}}
		for _, m := range all {
			m.s = made(t, d, m.base)
		}
		for range 80 {
			if r.Intn(12) == 0 {
				d.Arm(r.Intn(4))
			}
			m := all[r.Intn(len(all))]
			if !m.step(t, r) && r.Intn(20) > 0 {
				holds(t, fmt.Sprint("round ", round), m.s, m.base, m.synced, m.l...)
				continue
			}
			d.Crash(r.Intn(3), r.Intn(300)*r.Intn(2), r.Intn(300), r.Intn(300)-1)
			for _, m := range all {
				was, synced := len(m.l), m.synced
				m.opensAnew(t, d)
				left[kept(synced, len(m.l), was)]++
			}
		}
	}
	for _, what := range []string{"all", "none", "some"} {
		if left[what] == 0 {
			t.Error("never left: ", what)
		}
	}
}

// kept is how much a crash left of the batches that were not synced.
func kept(synced, left, was int) string {
	switch {
	case synced == was:
		return "nothing to lose"
	case left == was:
		return "all"
	case left == synced:
		return "none"
	}
	return "some"
}

// The power goes in each call of a script, one after the other, and each number of bytes that were not synced is left.
func TestCrashInEachCall(t *testing.T) {
	for n := 1; n <= 14; n++ {
		m := &model{base: 10}
		d := newDisk(t)
		d.Arm(n)
		err := m.script(d)
		if (n <= 12) != (err == api.ErrCrash) || n > 12 && err != nil {
			t.Fatal(n, err)
		}
		for pick := -1; pick < 130; pick++ {
			c := d.Clone()
			c.Crash(1, pick)
			if m.s == nil && len(c.List()) == 0 {
				continue
			}
			again := &model{base: m.base, l: slices.Clone(m.l), synced: m.synced}
			again.opensAnew(t, c)
			if s, lost, err := seg.Open(c, 10, every); err != nil || lost != 0 || s.End() != again.s.End() {
				t.Fatal(n, pick, lost, err)
			}
		}
	}
}

// script is twelve calls that change the disk, and keeps what was done.
func (m *model) script(d *disk.Disk) error {
	s, err := seg.Create(d, 10, every) // 3
	if err != nil {
		return err
	}
	m.s = s
	if err := m.more(batch(10, 1, 2), batch(12, 1, 3), batch(15, 4, 1)); err != nil { // 6
		return err
	}
	if err := s.Sync(); err != nil { // 7
		return err
	}
	m.synced = len(m.l)
	if err := m.more(batch(16, 5, 2), batch(18, 5, 1)); err != nil { // 9
		return err
	}
	if err := s.Cut(12); err != nil { // 10
		return err
	}
	m.l, m.synced = m.l[:1], 1
	return m.more(batch(12, 2, 4), batch(16, 2, 2)) // 12
}

func (m *model) more(l ...api.Batch) error {
	for _, b := range l {
		if err := m.s.Append(b); err != nil {
			return err
		}
		m.l = append(m.l, b)
	}
	return nil
}
