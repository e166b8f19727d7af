package epoch

import (
	"slices"
	"sort"

	"cordwood/api"
)

// Last is the last pair.
func (e *Line) Last() (api.Pair, bool) {
	n := len(e.pairs)
	if n == 0 {
		return api.Pair{}, false
	}
	return e.pairs[n-1], true
}

// At is the epoch that has offset.
func (e *Line) At(offset int64) (int, bool) {
	n := e.place(offset)
	if n < 0 {
		return 0, false
	}
	return e.pairs[n].Epoch, true
}

// End is the greatest epoch that is not above this one, and where it ends in a log that ends at end.
func (e *Line) End(epoch int, end int64) (int, int64, bool) {
	n := sort.Search(len(e.pairs), func(i int) bool { return e.pairs[i].Epoch > epoch })
	if n == 0 {
		return 0, 0, false
	}
	if n < len(e.pairs) {
		end = e.pairs[n].Start
	}
	return e.pairs[n-1].Epoch, end, true
}

// Has tells whether pairs that end at end are part of the lineage of a log that ends at whole.
func (e *Line) Has(l []api.Pair, end int64, whole int64) bool {
	if check(l) != nil || len(l) == 0 || l[len(l)-1].Start >= end || end > whole {
		return false
	}
	// The pairs of l lie one behind the other and each has another epoch: each lies within the same epoch here just if they are what is here from their start to their end.
	return slices.Equal(e.Span(l[0].Start, end), l)
}

// Span is the pairs that have offsets from from to below to.
func (e *Line) Span(from, to int64) []api.Pair {
	if from >= to {
		return nil
	}
	l := slices.Clone(e.pairs[max(e.place(from), 0):e.ahead(to)])
	if len(l) > 0 {
		l[0].Start = max(l[0].Start, from)
	}
	return l
}
