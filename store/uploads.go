package store

import (
	"bytes"

	"cordwood/api"
)

// upload is an object that is still laid, in parts.
type upload struct {
	name  string
	parts map[int][]byte
}

// Start begins an upload, and is its id.
func (s *Store) Start(name string) (int, error) {
	return answer(s, func() (int, error) {
		if !valid(name) {
			return 0, api.ErrName
		}
		s.last++
		s.uploads[s.last] = upload{name: name, parts: map[int][]byte{}}
		return s.last, nil
	})
}

// Part lays b there as a part of the upload, in place of an elder one.
func (s *Store) Part(id, n int, b []byte) error {
	return bare(s, func() error {
		u, is := s.uploads[id]
		if !is {
			return api.ErrNone
		}
		if n < 0 || n >= api.MaxParts {
			return api.ErrRange
		}
		u.parts[n] = bytes.Clone(b)
		return nil
	})
}

// Complete makes the upload's first so many parts the object.
func (s *Store) Complete(id, parts int) error {
	return bare(s, func() error {
		u, is := s.uploads[id]
		if !is {
			return api.ErrNone
		}
		b, err := u.join(parts)
		if err != nil {
			return err
		}
		s.objects[u.name] = b
		delete(s.uploads, id)
		return nil
	})
}

// Abort lets go of the upload.
func (s *Store) Abort(id int) error {
	return bare(s, func() error {
		if _, is := s.uploads[id]; !is {
			return api.ErrNone
		}
		delete(s.uploads, id)
		return nil
	})
}

// Uploads is the uploads' ids, rising.
func (s *Store) Uploads() ([]int, error) {
	return answer(s, func() ([]int, error) { return s.Open(), nil })
}

// join is the first so many parts, in order.
func (u upload) join(parts int) ([]byte, error) {
	if parts < 0 || parts > api.MaxParts {
		return nil, api.ErrRange
	}
	var b []byte
	for n := range parts {
		part, is := u.parts[n]
		if !is {
			return nil, api.ErrRange
		}
		b = append(b, part...)
	}
	return b, nil
}
