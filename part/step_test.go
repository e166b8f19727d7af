package part_test

import (
	"fmt"
	"math"
	"slices"
	"testing"

	"cordwood/api"
	"cordwood/call"
	"cordwood/crc"
	"cordwood/part"
	"cordwood/store"
)

const (
	g = store.Good
	f = store.Fails
	l = store.Loses
)

// laying is bytes on their way into a store: how far they are, as the last Step told.
type laying struct {
	t        *testing.T
	s        *store.Store
	c        *call.Client
	p        part.Plan
	b        []byte
	id, done int
}

// lay is so many bytes, that are to be laid in parts of each so many by a client of so many tries.
func lay(t *testing.T, size, each, tries int) *laying {
	t.Helper()
	b := text(size)
	s := store.New()
	return &laying{t: t, s: s, c: client(t, s, tries), p: plan(t, b, each), b: b}
}

func client(t *testing.T, s *store.Store, tries int) *call.Client {
	t.Helper()
	c, err := call.New(s, tries)
	if err != nil {
		t.Fatal(tries, err)
	}
	return c
}

// tells does the thing that is next, behind these outcomes, and checks what is told, and how often it asked.
func (w *laying) tells(id, done int, all bool, err error, asked int, outcomes ...int) {
	w.t.Helper()
	w.s.Script(outcomes...)
	ahead, calls := w.c.Asked(), w.s.Calls()
	gotID, gotDone, gotAll, gotErr := part.Step(w.c, w.p, w.b, w.id, w.done)
	if gotID != id || gotDone != done || gotAll != all || gotErr != err {
		w.t.Errorf("%d in %d, %d and %d behind %v: %d %d %t %v, not %d %d %t %v", w.p.Size, w.p.Each, w.id, w.done, outcomes, gotID, gotDone, gotAll, gotErr, id, done, all, err)
	}
	if w.c.Asked() != ahead+asked || w.s.Calls() != calls+asked {
		w.t.Errorf("%d in %d, %d and %d behind %v: asked %d and %d, not %d", w.p.Size, w.p.Each, w.id, w.done, outcomes, w.c.Asked()-ahead, w.s.Calls()-calls, asked)
	}
	w.id, w.done = gotID, gotDone
}

// steps does so many things, that are answered.
func (w *laying) steps(many int) {
	w.t.Helper()
	for range many {
		id, done, all, err := part.Step(w.c, w.p, w.b, w.id, w.done)
		if all || err != nil {
			w.t.Fatal(w.id, w.done, all, err)
		}
		w.id, w.done = id, done
	}
}

// toTheEnd does all that is still to be done, and looks whether the bytes are there.
func (w *laying) toTheEnd() {
	w.t.Helper()
	for range w.p.Parts + 2 {
		id, done, all, err := part.Step(w.c, w.p, w.b, w.id, w.done)
		if err != nil {
			w.t.Fatal(w.id, w.done, err)
		}
		w.id, w.done = id, done
		if all {
			w.there()
			return
		}
	}
	w.t.Error("no end", w.p, w.id, w.done)
}

// there looks whether the bytes are there.
func (w *laying) there() {
	w.t.Helper()
	b, is := w.s.Bytes("x")
	if !is || string(b) != string(w.b) {
		w.t.Errorf("%+v: %t, %d bytes", w.p, is, len(b))
	}
	if len(b) != w.p.Size || crc.Of(b) != w.p.Sum {
		w.t.Errorf("%+v: %d bytes, %d", w.p, len(b), crc.Of(b))
	}
}

// has checks which objects and which uploads there are.
func (w *laying) has(names []string, ids ...int) {
	w.t.Helper()
	if got := w.s.Names(); !slices.Equal(got, names) {
		w.t.Errorf("%+v at %d and %d: %v, not %v", w.p, w.id, w.done, got, names)
	}
	if got := w.s.Open(); !slices.Equal(got, ids) {
		w.t.Errorf("%+v at %d and %d: %v, not %v", w.p, w.id, w.done, got, ids)
	}
}

// parted checks that the upload has just its first so many parts: that it can be completed of these, and of no more.
func (w *laying) parted(id, many int) {
	w.t.Helper()
	c := w.s.Clone()
	if err := c.Complete(id, many+1); err != api.ErrRange {
		w.t.Error(id, many, err)
	}
	if err := c.Complete(id, many); err != nil {
		w.t.Error(id, many, err)
	}
	b, _ := c.Bytes("x")
	if want := w.b[:min(many*w.p.Each, len(w.b))]; string(b) != string(want) {
		w.t.Errorf("%d of %d parts: %q, not %q", many, w.p.Parts, b, want)
	}
}

// sizes are sizes, and of how many bytes each part is.
func sizes() [][2]int {
	return [][2]int{{0, 1}, {0, maxEach}, {1, 1}, {1, 2}, {5, 2}, {6, 2}, {4, 5}, {5, 5}, {6, 5}, {19, 4}}
}

// rows are all outcomes that are no answer, so many one behind the other.
func rows(many int) [][]int {
	if many == 0 {
		return [][]int{nil}
	}
	var all [][]int
	for _, row := range rows(many - 1) {
		all = append(all, append(slices.Clone(row), f), append(slices.Clone(row), l))
	}
	return all
}

// From nothing to the end, one thing at a time.
func TestStepToTheEnd(t *testing.T) {
	for _, x := range append(sizes(), [2]int{api.MaxParts, 1}, [2]int{api.MaxParts*3 - 2, 3}, [2]int{2*maxEach + 1, maxEach}) {
		w := lay(t, x[0], x[1], 1)
		w.tells(1, 0, false, nil, 1)
		w.has(nil, 1)
		for n := range w.p.Parts {
			w.tells(1, n+1, false, nil, 1)
			w.has(nil, 1)
			if n < 8 {
				w.parted(1, n+1)
			}
		}
		w.tells(1, w.p.Parts, true, nil, 1)
		w.has([]string{"x"})
		w.there()
		if w.c.Asked() != w.p.Parts+2 {
			t.Error(x, w.c.Asked())
		}
	}
}

// The chapter's example: 3 parts.
func TestStepExample(t *testing.T) {
	s := store.New()
	c := client(t, s, 1)
	b := []byte("12345")
	p, err := part.Make("a", b, 2)
	if err != nil {
		t.Fatal(err)
	}
	id, done := 0, 0
	for i, want := range []string{"1 0 false <nil>", "1 1 false <nil>", "1 2 false <nil>", "1 3 false <nil>", "1 3 true <nil>"} {
		var all bool
		id, done, all, err = part.Step(c, p, b, id, done)
		if got := fmt.Sprint(id, done, all, err); got != want {
			t.Errorf("%d: %s, not %s", i, got, want)
		}
	}
	if got, is := s.Bytes("a"); string(got) != "12345" || !is {
		t.Errorf("%q %t", got, is)
	}
}

// An object that is there stays as it is till the last thing is done.
func TestStepOverAnObject(t *testing.T) {
	w := lay(t, 5, 2, 1)
	if err := w.s.Put("x", []byte("elder")); err != nil {
		t.Fatal(err)
	}
	for range 4 {
		w.steps(1)
		if b, _ := w.s.Bytes("x"); string(b) != "elder" {
			t.Errorf("%q", b)
		}
	}
	w.tells(1, 3, true, nil, 1)
	w.there()
}

// Without an upload there is just one to begin, whatever is told to be done.
func TestStepBegins(t *testing.T) {
	w := lay(t, 5, 2, 1)
	for done := range 4 {
		w.id, w.done = 0, done
		w.tells(done+1, 0, false, nil, 1)
		w.parted(done+1, 0)
	}
	for done := range 4 {
		w.id, w.done = 0, done
		w.tells(0, done, false, api.ErrStore, 1, f)
	}
	w.has(nil, 1, 2, 3, 4)
}

// Numbers and bytes that may not be: nothing is asked, and the id and what is done are told as they were.
func TestStepRange(t *testing.T) {
	w := lay(t, 5, 2, 2)
	w.steps(2)
	state := fmt.Sprint(w.s.Names(), w.s.Open())
	asked := w.c.Asked()
	wrong := func(p part.Plan, b []byte, done int) {
		t.Helper()
		for _, id := range []int{0, 1, 2, -1, math.MinInt, math.MaxInt} {
			gotID, gotDone, all, err := part.Step(w.c, p, b, id, done)
			if gotID != id || gotDone != done || all || err != api.ErrRange {
				t.Errorf("%+v %q %d %d: %d %d %t %v", p, b, id, done, gotID, gotDone, all, err)
			}
		}
		if w.c.Asked() != asked || w.s.Calls() != asked || fmt.Sprint(w.s.Names(), w.s.Open()) != state {
			t.Errorf("%+v %q %d: it was asked", p, b, done)
		}
	}
	for _, done := range []int{-1, -3, math.MinInt, 4, 5, api.MaxParts, math.MaxInt} {
		wrong(w.p, w.b, done)
	}
	for _, n := range []int{0, 1, 4, 6, 10, 700} {
		for _, done := range []int{0, 1, 2, 3, 4, -1} {
			wrong(w.p, text(n), done)
		}
	}
	wrong(w.p, w.b[:4:5], 1)
	empty := plan(t, nil, 2)
	for _, done := range []int{-1, 1, math.MaxInt} {
		wrong(empty, nil, done)
	}
	wrong(empty, text(1), 0)
	other := w.p
	other.Parts = 2
	for done := range 4 {
		wrong(other, w.b, done)
	}
	w.parted(1, 1)
	w.toTheEnd()
}

// At Parts all parts are done: there is just the object to be made.
func TestStepAtParts(t *testing.T) {
	for _, x := range sizes() {
		w := lay(t, x[0], x[1], 1)
		w.steps(w.p.Parts + 1)
		if w.done != w.p.Parts {
			t.Error(x, w.done)
		}
		w.tells(1, w.p.Parts, true, nil, 1)
		w.has([]string{"x"})
	}
}

// Who tells more to be done than is, is told what the store tells of it.
func TestStepOfMissingParts(t *testing.T) {
	w := lay(t, 5, 2, 1)
	w.steps(2)
	w.done = 3
	w.tells(1, 3, false, api.ErrRange, 1)
	w.has(nil, 1)
	w.done = 2
	w.tells(1, 3, false, nil, 1)
	w.tells(1, 3, false, api.ErrRange, 1)
	w.done = 1
	w.steps(1)
	w.toTheEnd()
}

// What is done again is as if it had not been.
func TestStepTwice(t *testing.T) {
	for _, x := range sizes() {
		w := lay(t, x[0], x[1], 1)
		w.steps(1)
		for n := range w.p.Parts {
			for range 3 {
				w.done = n
				w.tells(1, n+1, false, nil, 1)
				w.parted(1, n+1)
			}
		}
		for n := range w.p.Parts {
			w.done = w.p.Parts - 1 - n
			w.tells(1, w.p.Parts-n, false, nil, 1)
			w.parted(1, w.p.Parts)
		}
		w.done = 0
		w.toTheEnd()
		w.has([]string{"x"})
	}
}

// All in parts another time: the object is made anew.
func TestLaidTwice(t *testing.T) {
	w := lay(t, 5, 2, 1)
	w.toTheEnd()
	w.id, w.done = 0, 0
	w.tells(2, 0, false, nil, 1)
	w.has([]string{"x"}, 2)
	w.toTheEnd()
	w.has([]string{"x"})
}

// Two of them on their way at once, by one client.
func TestStepsOfTwo(t *testing.T) {
	s := store.New()
	c := client(t, s, 1)
	names := []string{"one", "two"}
	texts := [][]byte{[]byte("first text"), []byte("another")}
	var plans [2]part.Plan
	var at [2][2]int
	for i, name := range names {
		p, err := part.Make(name, texts[i], 3+i)
		if err != nil {
			t.Fatal(err)
		}
		plans[i] = p
	}
	for step := range 6 {
		for i, p := range plans {
			if step > p.Parts+1 {
				continue
			}
			id, done, all, err := part.Step(c, p, texts[i], at[i][0], at[i][1])
			if id != i+1 || done != min(step, p.Parts) || all != (step == p.Parts+1) || err != nil {
				t.Error(step, i, id, done, all, err)
			}
			at[i] = [2]int{id, done}
		}
	}
	for i, name := range names {
		if b, _ := s.Bytes(name); string(b) != string(texts[i]) {
			t.Errorf("%s: %q", name, b)
		}
	}
	if fmt.Sprint(s.Names(), s.Open()) != "[one two] []" {
		t.Error(s.Names(), s.Open())
	}
}
