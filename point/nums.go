package point

import (
	"math"

	"cordwood/api"
	"cordwood/vint"
)

// Nums is the numbers as bytes, and how many ahead of them.
func Nums(l ...int64) []byte {
	b := vint.Put(nil, uint64(len(l)))
	for _, n := range l {
		b = append(b, vint.PutInt(nil, n)...)
	}
	return b
}

// ReadNums is the numbers whose Nums these bytes are.
func ReadNums(b []byte) ([]int64, error) {
	r := vint.NewReader(b)
	many := int(r.Num(api.MaxItems))
	var l []int64
	for len(l) < many && r.Err() == nil {
		l = append(l, r.Int(math.MinInt64, math.MaxInt64))
	}
	if r.Err() != nil {
		return nil, r.Err()
	}
	if r.Left() > 0 {
		return nil, &api.At{Pos: r.At(), Err: api.ErrMany}
	}
	return l, nil
}
