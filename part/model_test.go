package part_test

import (
	"fmt"
	"math/rand/v2"
	"slices"
	"testing"

	"cordwood/api"
	"cordwood/part"
	"cordwood/store"
)

// told is what a Step tells.
type told struct {
	id, done int
	all      bool
	err      error
}

// byHand is what a Step is to tell of w, done by the calls of a copy of its store.
func (w *laying) byHand(s *store.Store, tries int) told {
	silent := false
	ask := func(do func() error) error {
		err := do()
		for left := tries - 1; left > 0 && err == api.ErrStore; left-- {
			silent = true
			err = do()
		}
		return err
	}
	pieces := slices.Collect(slices.Chunk(w.b, w.p.Each))
	if w.done < 0 || w.done > len(pieces) {
		return told{w.id, w.done, false, api.ErrRange}
	}
	var id int
	var err error
	good := told{w.id, w.done, true, nil}
	switch {
	case w.id == 0:
		err = ask(func() (err error) {
			id, err = s.Start("x")
			return err
		})
		good = told{id, 0, false, nil}
	case w.done < len(pieces):
		err = ask(func() error { return s.Part(w.id, w.done, pieces[w.done]) })
		good = told{w.id, w.done + 1, false, nil}
	default:
		err = ask(func() error { return s.Complete(w.id, len(pieces)) })
		if err == api.ErrNone && silent {
			err = w.look(s, ask)
		}
	}
	switch err {
	case nil:
		return good
	case api.ErrNone:
		return told{}
	}
	return told{w.id, w.done, false, err}
}

// look is whether the bytes are there all the same.
func (w *laying) look(s *store.Store, ask func(func() error) error) error {
	return ask(func() error {
		size, sum, err := s.Head("x")
		if err == nil && (size != w.p.Size || sum != w.p.Sum) {
			return api.ErrNone
		}
		return err
	})
}

// Steps behind outcomes of all kinds, with others who meddle, and by hand of a copy of the store.
func TestModel(t *testing.T) {
	r := rand.New(rand.NewPCG(13, 13))
	came := map[string]int{}
	for range 2000 {
		tries := 1 + r.IntN(4)
		w := lay(t, r.IntN(12), 1+r.IntN(6), tries)
		model := w.s.Clone()
		for range 60 {
			meddle(r, w, model)
			want := w.byHand(model, tries)
			var got told
			got.id, got.done, got.all, got.err = part.Step(w.c, w.p, w.b, w.id, w.done)
			if got != want || w.c.Asked() > w.s.Calls() {
				t.Fatalf("%+v of %d tries, at %d and %d: %+v, not %+v", w.p, tries, w.id, w.done, got, want)
			}
			same(t, w.s, model)
			came[kind(w, got)]++
			w.id, w.done = got.id, got.done
			if got.all {
				w.there()
				w.id, w.done = 0, 0
			}
		}
	}
	for _, x := range []string{"begun", "laid", "there", "anew", api.ErrStore.Error(), api.ErrRange.Error()} {
		if came[x] < 500 {
			t.Error(x, came[x])
		}
	}
}

// kind is what became of a Step.
func kind(w *laying, x told) string {
	switch {
	case x.err != nil:
		return x.err.Error()
	case x.all:
		return "there"
	case x.id == 0:
		return "anew"
	case w.id == 0:
		return "begun"
	}
	return "laid"
}

// meddle lays outcomes, and lets others do something to the store, or to what is known of the upload.
func meddle(r *rand.Rand, w *laying, model *store.Store) {
	both := func(do func(s *store.Store)) {
		do(w.s)
		do(model)
	}
	switch r.IntN(20) {
	case 0, 1, 2, 3, 4:
		outcomes := slices.Repeat([]int{[]int{f, l}[r.IntN(2)]}, r.IntN(5))
		outcomes = append(outcomes, r.IntN(4))
		both(func(s *store.Store) { s.Script(outcomes...) })
	case 5:
		both(func(s *store.Store) { s.Abort(w.id) })
	case 6:
		parts := r.IntN(w.p.Parts + 1)
		both(func(s *store.Store) { s.Complete(w.id, parts) })
	case 7:
		other := text(r.IntN(6))
		both(func(s *store.Store) { s.Put("x", other) })
	case 8:
		w.done = r.IntN(w.p.Parts+3) - 1
	case 9:
		w.id = r.IntN(5) - 1
	}
}

// same checks that two stores have the same.
func same(t *testing.T, s, model *store.Store) {
	t.Helper()
	got, want := fmt.Sprint(s.Calls(), s.Failed(), s.Names(), s.Open()), fmt.Sprint(model.Calls(), model.Failed(), model.Names(), model.Open())
	if got != want {
		t.Fatalf("%s, not %s", got, want)
	}
	b, _ := s.Bytes("x")
	if want, _ := model.Bytes("x"); string(b) != string(want) {
		t.Fatalf("%q, not %q", b, want)
	}
}
