package seg

import (
	"cordwood/api"
	"cordwood/rec"
)

// Read is the records from offset on, batch by batch, as long as the batches have at most so many bytes; the first in any case.
func (s *Seg) Read(offset int64, most int) ([]api.Batch, error) {
	if offset < s.Base() || offset >= s.End() {
		return nil, api.ErrOutside
	}
	at := s.before(offset)
	l, err := s.batches(at, at+1)
	if err != nil {
		return nil, err
	}
	l[0].Records = l[0].Records[offset-l[0].Base:]
	l[0].Base = offset
	// As told, it has fewer bytes than in the file: as if it began behind its pos.
	begin := s.edges[at+1].pos - rec.Size(l[0])
	fit := s.until(func(e edge) bool { return e.pos-begin > most })
	behind, err := s.batches(at+1, max(at+1, fit))
	if err != nil {
		return nil, err
	}
	return append(l, behind...), nil
}

// Raw is the bytes of all batches.
func (s *Seg) Raw() ([]byte, error) { return s.raw(0, len(s.edges)-1) }

// batches is the batches from one edge to another.
func (s *Seg) batches(from, to int) ([]api.Batch, error) {
	raw, err := s.raw(from, to)
	if err != nil {
		return nil, err
	}
	l, _, err := rec.All(raw)
	if err != nil {
		return nil, err
	}
	if !s.lie(l, from, to) {
		return nil, api.ErrShape
	}
	return l, nil
}

// lie tells whether the batches are those from one edge to another, as their offsets go: others may stand there, if the file was changed by the disk's own calls.
func (s *Seg) lie(l []api.Batch, from, to int) bool {
	if len(l) != to-from {
		return false
	}
	for i, b := range l {
		if b.Base != s.edges[from+i].offset || rec.Next(b) != s.edges[from+i+1].offset {
			return false
		}
	}
	return true
}

// raw is the bytes from one edge to another.
func (s *Seg) raw(from, to int) ([]byte, error) {
	pos := s.edges[from].pos
	return s.disk.Read(s.file, pos, s.edges[to].pos-pos)
}
