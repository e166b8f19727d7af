package hot

import (
	"cordwood/api"
	"cordwood/disk"
	"cordwood/index"
	"cordwood/name"
	"cordwood/rec"
	"cordwood/seg"
)

// Open is the log that the disk has: its segments up to the first one that does not follow the one ahead of it; the others are removed.
func Open(d *disk.Disk, c Config) (*Log, error) {
	if c.Seg < 1 || c.Seg > maxSeg {
		return nil, api.ErrRange
	}
	if _, err := index.New(c.Every); err != nil {
		return nil, err
	}
	segs, err := openAll(d, c.Every)
	if err != nil {
		return nil, err
	}
	l := &Log{disk: d, config: c}
	for i, s := range segs {
		batches, err := batchesOf(s)
		if err != nil {
			return nil, err
		}
		if !l.joins(s, batches) {
			if err := remove(d, segs[i:]); err != nil {
				return nil, err
			}
			break
		}
		l.segs = append(l.segs, s)
		l.batches = append(l.batches, batches...)
	}
	return l, nil
}

// openAll is the segments of the disk, rising.
func openAll(d *disk.Disk, every int) ([]*seg.Seg, error) {
	var segs []*seg.Seg
	// The names have all digits that an offset may have: as they rise, so do the offsets.
	for _, file := range d.List() {
		base, is := name.Base(file)
		if !is {
			continue
		}
		s, _, err := seg.Open(d, base, every)
		if err != nil {
			return nil, err
		}
		segs = append(segs, s)
	}
	return segs, nil
}

// batchesOf is where the batches of a segment begin, and their epochs.
func batchesOf(s *seg.Seg) ([]batch, error) {
	raw, err := s.Raw()
	if err != nil {
		return nil, err
	}
	all, _, err := rec.All(raw)
	if err != nil {
		return nil, err
	}
	var batches []batch
	for _, b := range all {
		batches = append(batches, batch{b.Base, b.Epoch})
	}
	return batches, nil
}

// joins tells whether a segment may stand behind the others.
func (l *Log) joins(s *seg.Seg, batches []batch) bool {
	if len(l.segs) == 0 {
		return true
	}
	return s.Base() == l.End() && (len(batches) == 0 || l.follows(batches[0].epoch))
}
