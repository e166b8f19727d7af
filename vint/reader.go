package vint

import (
	"bytes"

	"cordwood/api"
)

const maxFixed = 8

// Reader reads bytes from their beginning on, up to its first error.
type Reader struct {
	b   []byte
	at  int
	err error
}

// NewReader is a reader of what b has now.
func NewReader(b []byte) *Reader { return &Reader{b: bytes.Clone(b)} }

// Num is a number of at most most.
func (r *Reader) Num(most uint64) uint64 {
	n, size := next(r, Get, 0, most)
	r.at += size
	return n
}

// Int is a number as PutInt has it, within from and to.
func (r *Reader) Int(from, to int64) int64 {
	n, size := next(r, GetInt, from, to)
	r.at += size
	return n
}

// Bytes is as many bytes as a number of at most most ahead of them says.
func (r *Reader) Bytes(most int) []byte {
	n, size := next(r, Get, 0, uint64(max(most, 0)))
	if r.err != nil {
		return nil
	}
	if n > uint64(r.Left()-size) {
		r.fail(api.ErrEnd)
		return nil
	}
	from := r.at + size
	r.at = from + int(n)
	return bytes.Clone(r.b[from:r.at])
}

// Fixed is a number of n bytes, the lowest first; one of fewer than none or more than eight has none.
func (r *Reader) Fixed(n int) uint64 {
	if r.err != nil || n < 0 || n > maxFixed {
		return 0
	}
	if n > r.Left() {
		r.fail(api.ErrEnd)
		return 0
	}
	var number uint64
	for i, c := range r.b[r.at : r.at+n] {
		number |= uint64(c) << (8 * i)
	}
	r.at += n
	return number
}

// Left is how many bytes are behind what was read.
func (r *Reader) Left() int { return len(r.b) - r.at }

// At is how many bytes were read: none of the call that met the error.
func (r *Reader) At() int { return r.at }

// Err is the first error.
func (r *Reader) Err() error { return r.err }

// next is the number within from and to that comes next, and how many bytes it has. The reader stays ahead of them, as Bytes may still fail behind them and has to be where it began.
func next[N int64 | uint64](r *Reader, get func([]byte) (N, int, error), from, to N) (N, int) {
	if r.err != nil {
		return 0, 0
	}
	n, size, err := get(r.b[r.at:])
	if err == nil && (n < from || n > to) {
		err = api.ErrRange
	}
	if err != nil {
		r.fail(err)
		return 0, 0
	}
	return n, size
}

// fail keeps an error, with the place of the number that has it; where the bytes end there is no such place.
func (r *Reader) fail(err error) {
	if err != api.ErrEnd {
		err = &api.At{Pos: r.at, Err: err}
	}
	r.err = err
}
