package mani

import (
	"math"

	"cordwood/api"
	"cordwood/crc"
	"cordwood/vint"
)

// The most that a number is read as; whether it may be that much is left to Valid.
const maxNum = 1 << 62

// Bytes is the manifest as bytes, sealed.
func Bytes(m api.Manifest) ([]byte, error) {
	if err := Valid(m); err != nil {
		return nil, err
	}
	b := put(nil, uint64(m.ID), uint64(m.Base), uint64(m.End))
	b = append(b, vint.PutInt(nil, m.Time)...)
	b = put(b, uint64(len(m.Epochs)))
	for _, p := range m.Epochs {
		b = put(b, uint64(p.Epoch), uint64(p.Start))
	}
	b = put(b, uint64(len(m.Objects)))
	for _, o := range m.Objects {
		b = put(b, uint64(len(o.Name)))
		b = append(b, o.Name...)
		b = put(b, uint64(o.Len), uint64(o.Sum))
	}
	return crc.Seal(b), nil
}

// Read is the manifest whose Bytes these are.
func Read(b []byte) (api.Manifest, error) {
	laid, err := crc.Open(b)
	if err != nil {
		return api.Manifest{}, err
	}
	r := vint.NewReader(laid)
	m := read(r)
	if r.Err() != nil {
		return api.Manifest{}, r.Err()
	}
	if r.Left() > 0 {
		return api.Manifest{}, &api.At{Pos: r.At(), Err: api.ErrShape}
	}
	return ifValid(m)
}

// read is the manifest that comes next. It may still be one that may not be, and means nothing behind an error of the reader.
func read(r *vint.Reader) api.Manifest {
	var m api.Manifest
	m.ID = int(r.Num(maxNum))
	m.Base = int64(r.Num(maxNum))
	m.End = int64(r.Num(maxNum))
	m.Time = r.Int(-maxNum, maxNum)
	for range r.Num(api.MaxEpochs) {
		m.Epochs = append(m.Epochs, readPair(r))
	}
	for range r.Num(api.MaxObjects) {
		m.Objects = append(m.Objects, readObject(r))
	}
	return m
}

// readPair is the pair that comes next.
func readPair(r *vint.Reader) api.Pair {
	var p api.Pair
	p.Epoch = int(r.Num(maxNum))
	p.Start = int64(r.Num(maxNum))
	return p
}

// readObject is the object that comes next.
func readObject(r *vint.Reader) api.Object {
	var o api.Object
	o.Name = string(r.Bytes(api.MaxName))
	o.Len = int(r.Num(maxNum))
	o.Sum = uint32(r.Num(math.MaxUint32)) // no sum has more
	return o
}

// put is b with the bytes of the numbers behind.
func put(b []byte, numbers ...uint64) []byte {
	for _, n := range numbers {
		b = append(b, vint.Put(nil, n)...)
	}
	return b
}
