package store

import (
	"bytes"
	"strings"

	"cordwood/api"
	"cordwood/crc"
)

// Put lays b there as an object, in place of one that had the name.
func (s *Store) Put(name string, b []byte) error {
	return bare(s, func() error {
		if !valid(name) {
			return api.ErrName
		}
		s.objects[name] = bytes.Clone(b)
		return nil
	})
}

// Get is n of the object's bytes, from off on.
func (s *Store) Get(name string, off, n int) ([]byte, error) {
	return answer(s, func() ([]byte, error) {
		b, is := s.objects[name]
		if !is {
			return nil, api.ErrNone
		}
		if off < 0 || n < 0 || n > len(b)-off {
			return nil, api.ErrRange
		}
		return bytes.Clone(b[off : off+n]), nil
	})
}

// Head is how many bytes the object has, and their sum.
func (s *Store) Head(name string) (int, uint32, error) {
	b, err := answer(s, func() ([]byte, error) {
		b, is := s.objects[name]
		if !is {
			return nil, api.ErrNone
		}
		return b, nil
	})
	// No bytes, as beside an error, have the sum 0.
	return len(b), crc.Of(b), err
}

// List is the names that begin with the prefix, rising.
func (s *Store) List(prefix string) ([]string, error) {
	return answer(s, func() ([]string, error) {
		var under []string
		for _, name := range s.Names() {
			if strings.HasPrefix(name, prefix) {
				under = append(under, name)
			}
		}
		return under, nil
	})
}

// Delete takes the object away.
func (s *Store) Delete(name string) error {
	return bare(s, func() error {
		if _, is := s.objects[name]; !is {
			return api.ErrNone
		}
		delete(s.objects, name)
		return nil
	})
}

// valid tells whether s is a name.
func valid(s string) bool {
	if len(s) < 1 || len(s) > api.MaxName {
		return false
	}
	for i := range len(s) {
		c := s[i]
		if !('a' <= c && c <= 'z' || '0' <= c && c <= '9' || c == '.' || c == '-' || c == '_') {
			return false
		}
	}
	return true
}
