package index

import (
	"cordwood/api"
	"cordwood/crc"
	"cordwood/vint"
)

// The most that a time may lie from the one ahead of it, to either side.
const maxStep = 1 << 42

// Bytes is the index as bytes, sealed.
func (x *Index) Bytes() []byte {
	b := vint.Put(nil, uint64(x.every))
	b = append(b, vint.Put(nil, uint64(len(x.marks)))...)
	var ahead Mark
	for _, m := range x.marks {
		b = append(b, vint.Put(nil, uint64(m.Offset-ahead.Offset))...)
		b = append(b, vint.PutInt(nil, m.Time-ahead.Time)...)
		b = append(b, vint.Put(nil, uint64(m.Pos-ahead.Pos))...)
		ahead = m
	}
	return crc.Seal(b)
}

// Read is the index whose Bytes these are. Its batches are its marks alone, as the bytes tell of no others.
func Read(b []byte) (*Index, error) {
	laid, err := crc.Open(b)
	if err != nil {
		return nil, err
	}
	r := vint.NewReader(laid)
	every := int(r.Num(maxEvery))
	marks := readMarks(r)
	if r.Err() != nil {
		return nil, r.Err()
	}
	if r.Left() > 0 {
		return nil, &api.At{Pos: r.At(), Err: api.ErrShape}
	}
	if !rise(marks) || !right(marks) {
		return nil, api.ErrShape
	}
	x, err := New(every)
	if err != nil {
		return nil, err
	}
	for _, m := range marks {
		x.keep(m)
	}
	return x, nil
}

// readMarks is the marks that come next, and how many ahead of them. They may still lie where none can.
func readMarks(r *vint.Reader) []Mark {
	many := int(r.Num(api.MaxItems))
	var marks []Mark
	var m Mark
	for len(marks) < many && r.Err() == nil {
		m.Offset += int64(r.Num(api.MaxOffset))
		m.Time += r.Int(-maxStep, maxStep)
		m.Pos += int(r.Num(maxPos))
		marks = append(marks, m)
	}
	return marks
}

// rise tells whether offsets and poses of the marks do.
func rise(marks []Mark) bool {
	for i := 1; i < len(marks); i++ {
		if marks[i].Offset <= marks[i-1].Offset || marks[i].Pos <= marks[i-1].Pos {
			return false
		}
	}
	return true
}

// right tells whether each mark is where one may be.
func right(marks []Mark) bool {
	for _, m := range marks {
		if !rightOffset(m.Offset) || !rightTime(m.Time) || !rightPos(m.Pos) {
			return false
		}
	}
	return true
}

// keep takes in a mark as it was read, also one that lies less than every bytes behind the last one.
func (x *Index) keep(m Mark) {
	x.marks = append(x.marks, m)
	x.adds = append(x.adds, batch{m.Offset, m.Pos})
	x.time = max(x.time, m.Time)
}
