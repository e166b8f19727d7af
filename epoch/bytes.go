package epoch

import (
	"cordwood/api"
	"cordwood/vint"
)

// Bytes is the lineage as bytes.
func (e *Line) Bytes() []byte {
	b := vint.Put(nil, uint64(len(e.pairs)))
	for _, p := range e.pairs {
		b = append(b, vint.Put(nil, uint64(p.Epoch))...)
		b = append(b, vint.Put(nil, uint64(p.Start))...)
	}
	return b
}

// Read is the lineage whose Bytes these are.
func Read(b []byte) (*Line, error) {
	r := vint.NewReader(b)
	many := int(r.Num(api.MaxEpochs))
	var l []api.Pair
	for len(l) < many && r.Err() == nil {
		l = append(l, api.Pair{Epoch: int(r.Num(api.MaxEpoch)), Start: int64(r.Num(api.MaxOffset))})
	}
	if r.Err() != nil {
		return nil, r.Err()
	}
	if r.Left() > 0 {
		return nil, &api.At{Pos: r.At(), Err: api.ErrMany}
	}
	return New(l...)
}
