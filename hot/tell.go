package hot

import (
	"sort"

	"cordwood/api"
	"cordwood/seg"
)

// Read is the records from offset on, as the segment that has it reads them: none of the next one.
func (l *Log) Read(offset int64, most int) ([]api.Batch, error) {
	n := sort.Search(len(l.segs), func(i int) bool { return l.segs[i].End() > offset })
	if n == len(l.segs) {
		return nil, api.ErrOutside
	}
	return l.segs[n].Read(offset, most)
}

// Start is the first segment's first offset; 0 if there is none.
func (l *Log) Start() int64 {
	if len(l.segs) == 0 {
		return 0
	}
	return l.segs[0].Base()
}

// End is the offset behind the last record; 0 if there is no segment.
func (l *Log) End() int64 {
	if len(l.segs) == 0 {
		return 0
	}
	return l.last().End()
}

// Synced is the offset behind the last batch that is synced; 0 if there is no segment.
func (l *Log) Synced() int64 {
	if len(l.segs) == 0 {
		return 0
	}
	return l.last().Synced()
}

// Segs is each segment's first offset, its end, and its size.
func (l *Log) Segs() [][3]int64 {
	var segs [][3]int64
	for _, s := range l.segs {
		segs = append(segs, [3]int64{s.Base(), s.End(), int64(s.Size())})
	}
	return segs
}

// Raw is the bytes of the segment that begins at base.
func (l *Log) Raw(base int64) ([]byte, error) {
	s, err := l.find(base)
	if err != nil {
		return nil, err
	}
	return s.Raw()
}

// Marks is the index of the segment that begins at base, as bytes.
func (l *Log) Marks(base int64) ([]byte, error) {
	s, err := l.find(base)
	if err != nil {
		return nil, err
	}
	return s.Index().Bytes(), nil
}

// Time is the greatest time of the segment that begins at base.
func (l *Log) Time(base int64) (int64, error) {
	s, err := l.find(base)
	if err != nil {
		return 0, err
	}
	return s.Time(), nil
}

// Pairs is the epochs of all batches, and where each begins first.
func (l *Log) Pairs() []api.Pair {
	var pairs []api.Pair
	for _, b := range l.batches {
		if n := len(pairs); n == 0 || pairs[n-1].Epoch != b.epoch {
			pairs = append(pairs, api.Pair{Epoch: b.epoch, Start: b.base})
		}
	}
	return pairs
}

// find is the segment that begins at base.
func (l *Log) find(base int64) (*seg.Seg, error) {
	for _, s := range l.segs {
		if s.Base() == base {
			return s, nil
		}
	}
	return nil, api.ErrNone
}
