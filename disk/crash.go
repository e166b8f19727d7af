package disk

import (
	"bytes"
	"cmp"
	"maps"
	"slices"
)

// move is a Create (from nothing), a Rename, or a Remove (to nothing). No name is empty, so that the empty text stands for nothing.
type move struct {
	from, to string
	file     *file
}

// Arm lets the power go in the n-th call from now on that changes.
func (d *Disk) Arm(n int) { d.armed = n }

// Down tells whether the power is gone.
func (d *Disk) Down() bool { return d.down }

// Crash takes the power away and brings it back: the picks say what is kept of all that was not synced.
func (d *Disk) Crash(picks ...int) {
	d.settle(pick(picks, 0, len(d.since)))
	d.names = maps.Clone(d.durable)
	d.used = 0
	for i, f := range elderFirst(d.names) {
		f.keep(f.synced + pick(picks, i+1, len(f.bytes)-f.synced))
		d.used += len(f.bytes)
	}
	d.armed, d.down = 0, false
}

// Clone is a copy that goes its own way.
func (d *Disk) Clone() *Disk {
	c := *d
	twins := map[int]*file{}
	c.names = twinsOf(d.names, twins)
	c.durable = twinsOf(d.durable, twins)
	c.since = slices.Clone(d.since)
	for i, m := range c.since {
		c.since[i].file = twin(m.file, twins)
	}
	return &c
}

// do does a move, and keeps it: a crash may go back to ahead of it.
func (d *Disk) do(m move) {
	m.in(d.names)
	d.since = append(d.since, m)
	d.calls++
}

// settle makes the first n moves durable, and lets go of the others.
func (d *Disk) settle(n int) {
	for _, m := range d.since[:n] {
		m.in(d.durable)
	}
	d.since = nil
}

// in does the move within names. Away first: a file that is renamed to itself stays.
func (m move) in(names map[string]*file) {
	if m.from != "" {
		delete(names, m.from)
	}
	if m.to != "" {
		names[m.to] = m.file
	}
}

// pick is the i-th pick, taken round as 0 to most; 0 if it is missing.
func pick(picks []int, i, most int) int {
	if i >= len(picks) {
		return 0
	}
	n := picks[i] % (most + 1)
	if n < 0 {
		n += most + 1
	}
	return n
}

// elderFirst is the files in the order in which they were created.
func elderFirst(names map[string]*file) []*file {
	return slices.SortedFunc(maps.Values(names), func(a, b *file) int { return cmp.Compare(a.born, b.born) })
}

// twinsOf is the names, with the twins of their files.
func twinsOf(names map[string]*file, twins map[int]*file) map[string]*file {
	copied := make(map[string]*file, len(names))
	for name, f := range names {
		copied[name] = twin(f, twins)
	}
	return copied
}

// twin is the file's copy, the same one each time: a file may stand in several places, and has to be one file in the clone, too.
func twin(f *file, twins map[int]*file) *file {
	if f == nil {
		return nil
	}
	if twins[f.born] == nil {
		twins[f.born] = &file{born: f.born, bytes: bytes.Clone(f.bytes), synced: f.synced}
	}
	return twins[f.born]
}
