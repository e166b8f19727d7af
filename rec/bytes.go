package rec

import (
	"cordwood/api"
	"cordwood/crc"
	"cordwood/vint"
)

// How many bytes the numbers have that are always as long.
const (
	behindLen = 4 // how many bytes are behind the head
	sumLen    = 4
	headLen   = behindLen + sumLen
	baseLen   = 8
	epochLen  = 4
	manyLen   = 2 // how many records
)

// Between the least time and the greatest one.
const maxStep = 2 * api.MaxTime

// Bytes is the batch as bytes.
func Bytes(b api.Batch) ([]byte, error) {
	if err := Valid(b); err != nil {
		return nil, err
	}
	behind := lay(b)
	head := fixed(nil, uint64(len(behind)), behindLen)
	head = fixed(head, uint64(crc.Of(behind)), sumLen)
	return append(head, behind...), nil
}

// Size is how many bytes Bytes has; 0 if the batch may not be.
func Size(b api.Batch) int {
	if Valid(b) != nil {
		return 0
	}
	return headLen + len(lay(b))
}

// Read is the batch at the beginning of b, and how many bytes it has.
func Read(b []byte) (api.Batch, int, error) {
	if len(b) < headLen {
		return api.Batch{}, 0, api.ErrEnd
	}
	head := vint.NewReader(b[:headLen])
	n := head.Fixed(behindLen)
	sum := head.Fixed(sumLen)
	if n > api.MaxBatch {
		return api.Batch{}, 0, api.ErrMany
	}
	if n > uint64(len(b)-headLen) {
		return api.Batch{}, 0, api.ErrEnd
	}
	size := headLen + int(n)
	behind := b[headLen:size]
	if uint64(crc.Of(behind)) != sum {
		return api.Batch{}, 0, api.ErrSum
	}
	batch, ok := unlay(behind)
	if !ok {
		return api.Batch{}, 0, api.ErrShape
	}
	return batch, size, nil
}

// All is the batches from the beginning of b on, how many bytes they have, and the error at which they end.
func All(b []byte) ([]api.Batch, int, error) {
	var l []api.Batch
	at := 0
	for at < len(b) {
		batch, size, err := Read(b[at:])
		if err != nil {
			return l, at, err
		}
		l = append(l, batch)
		at += size
	}
	return l, at, nil
}

// lay is what is behind the head of a batch that may be.
func lay(b api.Batch) []byte {
	laid := fixed(nil, uint64(b.Base), baseLen)
	laid = fixed(laid, uint64(b.Epoch), epochLen)
	laid = fixed(laid, uint64(len(b.Records)), manyLen)
	time := b.Records[0].Time
	laid = append(laid, vint.PutInt(nil, time)...)
	for _, r := range b.Records {
		laid = append(laid, vint.PutInt(nil, r.Time-time)...)
		laid = text(laid, r.Key)
		laid = text(laid, r.Value)
		time = r.Time
	}
	return laid
}

// unlay is the batch whose lay this is, if there is one that may be.
func unlay(laid []byte) (api.Batch, bool) {
	var b api.Batch
	r := vint.NewReader(laid)
	b.Base = int64(r.Fixed(baseLen))
	b.Epoch = int(r.Fixed(epochLen))
	many := int(r.Fixed(manyLen))
	time := r.Int(-api.MaxTime, api.MaxTime)
	step := int64(0) // the first record has its time ahead of it
	for len(b.Records) < many && r.Err() == nil {
		time += r.Int(-step, step)
		key := r.Bytes(api.MaxKey)
		value := r.Bytes(api.MaxValue)
		b.Records = append(b.Records, api.Record{Time: time, Key: key, Value: value})
		step = maxStep
	}
	if r.Err() != nil || r.Left() > 0 || Valid(b) != nil {
		return api.Batch{}, false
	}
	return b, true
}

// fixed is b with size bytes of n behind, the lowest first.
func fixed(b []byte, n uint64, size int) []byte {
	for range size {
		b = append(b, byte(n))
		n >>= 8
	}
	return b
}

// text is b with how many bytes s has, and these, behind.
func text(b, s []byte) []byte {
	b = append(b, vint.Put(nil, uint64(len(s)))...)
	return append(b, s...)
}
