package part_test

import (
	"math"
	"testing"

	"cordwood/api"
	"cordwood/part"
)

// lost is how many of the outcomes are Loses.
func lost(row []int) int {
	many := 0
	for _, outcome := range row {
		if outcome == l {
			many++
		}
	}
	return many
}

// ids is from 1 to the last one.
func ids(last int) []int {
	var all []int
	for id := range last {
		all = append(all, id+1)
	}
	return all
}

// Outcomes of each kind at the beginning: with a try more, and with none more. What a lost answer began stays.
func TestOutcomesOfStart(t *testing.T) {
	for _, x := range sizes() {
		for many := range 4 {
			for _, row := range rows(many) {
				for tries := many + 1; tries < many+3; tries++ {
					w := lay(t, x[0], x[1], tries)
					w.tells(1+lost(row), 0, false, nil, many+1, row...)
					w.has(nil, ids(1+lost(row))...)
					w.toTheEnd()
					w.has([]string{"x"}, ids(lost(row))...)
				}
				if many == 0 {
					continue
				}
				w := lay(t, x[0], x[1], many)
				w.tells(0, 0, false, api.ErrStore, many, row...)
				w.has(nil, ids(lost(row))...)
				w.tells(1+lost(row), 0, false, nil, 1)
				w.toTheEnd()
			}
		}
	}
}

// Outcomes of each kind at each part.
func TestOutcomesOfParts(t *testing.T) {
	for _, x := range sizes() {
		for n := range plan(t, text(x[0]), x[1]).Parts {
			for many := range 4 {
				for _, row := range rows(many) {
					for tries := many + 1; tries < many+3; tries++ {
						w := lay(t, x[0], x[1], tries)
						w.steps(n + 1)
						w.tells(1, n+1, false, nil, many+1, row...)
						w.parted(1, n+1)
						w.toTheEnd()
					}
					if many > 0 {
						partUnanswered(t, x, n, row)
					}
				}
			}
		}
	}
}

// partUnanswered is a part behind as many outcomes as there are tries: it may be there all the same, and is laid again.
func partUnanswered(t *testing.T, x [2]int, n int, row []int) {
	t.Helper()
	w := lay(t, x[0], x[1], len(row))
	w.steps(n + 1)
	w.tells(1, n, false, api.ErrStore, len(row), row...)
	w.parted(1, n+min(lost(row), 1))
	w.tells(1, n, false, api.ErrStore, len(row), row...)
	w.has(nil, 1)
	w.tells(1, n+1, false, nil, 1)
	w.parted(1, n+1)
	w.toTheEnd()
	w.has([]string{"x"})
}

// Outcomes of each kind at the end, with a try more: what was done all the same is known again.
func TestOutcomesOfTheEnd(t *testing.T) {
	for _, x := range sizes() {
		for many := range 4 {
			for _, row := range rows(many) {
				for tries := many + 1; tries < many+3; tries++ {
					w := lay(t, x[0], x[1], tries)
					w.steps(w.p.Parts + 1)
					asked := many + 1
					if lost(row) > 0 {
						asked++ // the object is looked at
					}
					w.tells(1, w.p.Parts, true, nil, asked, row...)
					w.has([]string{"x"})
					w.there()
				}
			}
		}
	}
}

// The same, with no try more: it is asked for again, and, if an answer was lost, there is no upload any more, and all begins anew.
func TestTheEndUnanswered(t *testing.T) {
	for _, x := range sizes() {
		for many := 1; many < 4; many++ {
			for _, row := range rows(many) {
				w := lay(t, x[0], x[1], many)
				parts := w.p.Parts
				w.steps(parts + 1)
				w.tells(1, parts, false, api.ErrStore, many, row...)
				if lost(row) == 0 {
					w.has(nil, 1)
					w.tells(1, parts, true, nil, 1)
					w.there()
					continue
				}
				w.has([]string{"x"})
				w.there()
				w.tells(0, 0, false, nil, 1)
				w.tells(2, 0, false, nil, 1)
				w.toTheEnd()
				w.has([]string{"x"})
			}
		}
	}
}

// A lost answer, and an ErrStore at the next Step, too: then the object that is there is known again.
func TestTheEndIsLookedAt(t *testing.T) {
	for _, again := range []int{f, l} {
		w := lay(t, 5, 2, 2)
		w.steps(4)
		w.tells(1, 3, false, api.ErrStore, 2, l, f)
		w.tells(1, 3, true, nil, 3, again)
		w.has([]string{"x"})
		w.there()
	}
}

// The look itself isn't answered: that is told, and all is as it was.
func TestLookUnanswered(t *testing.T) {
	for _, row := range rows(2) {
		w := lay(t, 5, 2, 2)
		w.steps(4)
		w.tells(1, 3, false, api.ErrStore, 4, append([]int{l, g}, row...)...)
		w.tells(1, 3, false, api.ErrStore, 4, append([]int{f, g}, row...)...)
		w.tells(1, 3, true, nil, 4, l, g, row[0])
		w.has([]string{"x"})
		w.there()
	}
}

// gone checks what is told of an upload that is no more, and that all is laid anew.
func (w *laying) gone(asked int, outcomes ...int) {
	w.t.Helper()
	next, err := w.s.Clone().Start("x")
	if err != nil {
		w.t.Fatal(err)
	}
	w.tells(0, 0, false, nil, asked, outcomes...)
	w.tells(next, 0, false, nil, 1)
	w.toTheEnd()
	w.has([]string{"x"})
}

// An upload that was aborted meanwhile, behind any outcomes.
func TestAbortedMeanwhile(t *testing.T) {
	for _, x := range sizes() {
		parts := plan(t, text(x[0]), x[1]).Parts
		for done := range parts + 1 {
			for many := range 3 {
				for _, row := range rows(many) {
					w := lay(t, x[0], x[1], many+1)
					w.steps(done + 1)
					if err := w.s.Abort(1); err != nil {
						t.Fatal(err)
					}
					asked := many + 1
					if done == parts && many > 0 {
						asked++ // for an object that isn't there
					}
					w.gone(asked, row...)
				}
			}
		}
	}
}

// An upload that was aborted, and what isn't answered: that is told first.
func TestAbortedUnanswered(t *testing.T) {
	for done := range 4 {
		for _, row := range rows(2) {
			w := lay(t, 5, 2, 2)
			w.steps(done + 1)
			if err := w.s.Abort(1); err != nil {
				t.Fatal(err)
			}
			w.tells(1, done, false, api.ErrStore, 2, row...)
			w.has(nil)
			w.gone(1)
		}
	}
}

// An upload that was completed meanwhile: of what was there till then.
func TestCompletedMeanwhile(t *testing.T) {
	for done := range 4 {
		for _, row := range rows(1) {
			begun := func() *laying {
				w := lay(t, 5, 2, 2)
				w.steps(done + 1)
				if err := w.s.Complete(1, done); err != nil {
					t.Fatal(err)
				}
				w.has([]string{"x"})
				return w
			}
			begun().gone(1)
			w := begun()
			if done < 3 {
				w.gone(2, row...)
				continue
			}
			w.tells(1, 3, true, nil, 3, row...)
			w.there()
		}
	}
}

// Another object under that name is not what was to be laid, be it as long.
func TestAnotherObjectMeanwhile(t *testing.T) {
	for _, other := range [][]byte{nil, text(4), text(6), []byte("54321")} {
		for _, row := range rows(1) {
			w := lay(t, 5, 2, 2)
			w.steps(4)
			w.tells(1, 3, false, api.ErrStore, 2, l, f)
			if err := w.s.Put("x", other); err != nil {
				t.Fatal(err)
			}
			w.gone(3, row...)
		}
	}
}

// Uploads that never were.
func TestUploadsThatNeverWere(t *testing.T) {
	for _, id := range []int{1, 2, 77, -1, math.MinInt, math.MaxInt} {
		for done := range 4 {
			w := lay(t, 5, 2, 1)
			w.id, w.done = id, done
			w.gone(1)
		}
	}
	for _, id := range []int{1, -1} {
		w := lay(t, 0, 2, 1)
		w.id = id
		w.gone(1)
	}
}

// Whatever the outcomes are, Steps come to the end.
func TestToTheEndBehindAnyOutcomes(t *testing.T) {
	for tries := 1; tries < 4; tries++ {
		for many := range 9 {
			for _, row := range rows(many) {
				w := lay(t, 5, 2, tries)
				w.s.Script(row...)
				for all := false; !all; {
					if w.c.Asked() > 50 {
						t.Fatal(tries, row, "no end")
					}
					var err error
					w.id, w.done, all, err = part.Step(w.c, w.p, w.b, w.id, w.done)
					if err != nil && err != api.ErrStore {
						t.Fatal(tries, row, err)
					}
				}
				w.there()
			}
		}
	}
}
