package call_test

import (
	"fmt"
	"math/rand/v2"
	"slices"
	"strings"
	"testing"

	"cordwood/api"
	"cordwood/call"
	"cordwood/crc"
	"cordwood/store"
)

// ask is a call, with all that any of them may be handed.
type ask struct {
	kind, name string
	id, n      int
	text       string
	size       int
	sum        uint32
}

// asker is what a store and a client both have.
type asker interface {
	Put(name string, b []byte) error
	Get(name string, off, n int) ([]byte, error)
	Head(name string) (int, uint32, error)
	List(prefix string) ([]string, error)
	Delete(name string) error
	Start(name string) (int, error)
	Part(id, n int, b []byte) error
	Abort(id int) error
	Uploads() ([]int, error)
}

// tell is what a call tells, or its error.
func (x ask) tell(a asker) string {
	told, err := "done", error(nil)
	switch x.kind {
	case "put":
		err = a.Put(x.name, []byte(x.text))
	case "get":
		var b []byte
		b, err = a.Get(x.name, x.id, x.n)
		told = fmt.Sprintf("%q", b)
	case "head":
		var size int
		var sum uint32
		size, sum, err = a.Head(x.name)
		told = fmt.Sprint(size, sum)
	case "list":
		var l []string
		l, err = a.List(x.name)
		told = fmt.Sprint(l)
	case "delete":
		err = a.Delete(x.name)
	case "start":
		var id int
		id, err = a.Start(x.name)
		told = fmt.Sprint(id)
	case "part":
		err = a.Part(x.id, x.n, []byte(x.text))
	case "complete":
		if c, of := a.(*call.Client); of {
			err = c.Complete(x.id, x.n, x.name, x.size, x.sum)
		} else {
			err = a.(*store.Store).Complete(x.id, x.n)
		}
	case "abort":
		err = a.Abort(x.id)
	case "uploads":
		var l []int
		l, err = a.Uploads()
		told = fmt.Sprint(l)
	}
	if err != nil {
		return err.Error()
	}
	return told
}

// byHand is what a call of so many tries tells: all that a store tells until then is laid down first, and looked at behind.
func (x ask) byHand(s *store.Store, tries int) string {
	none, silent := api.ErrNone.Error(), api.ErrStore.Error()
	told := []string{x.tell(s)}
	for len(told) < tries && told[len(told)-1] == silent {
		told = append(told, x.tell(s))
	}
	last := told[len(told)-1]
	if len(told) == 1 || last != none {
		return last
	}
	switch x.kind {
	case "delete", "abort":
		return "done"
	case "complete":
		switch (ask{kind: "head", name: x.name}).byHand(s, tries) {
		case silent:
			return silent
		case fmt.Sprint(x.size, x.sum):
			return "done"
		}
	}
	return none
}

// anyAsk is a call of any kind, that may well come to something; it tells Complete mostly what is to come.
func anyAsk(r *rand.Rand, s *store.Store) ask {
	kinds := strings.Fields("put put get head list delete delete start start part part part complete complete complete abort uploads")
	names := []string{"a", "b", "ab", "abc", "A", ""}
	x := ask{kind: kinds[r.IntN(len(kinds))], name: names[r.IntN(len(names))], n: r.IntN(5) - 1}
	x.text = strings.Repeat("xyz"[r.IntN(3):][:1], r.IntN(4))
	x.id = r.IntN(6) - 1
	open := s.Open()
	if x.kind != "get" && len(open) > 0 && r.IntN(4) > 0 {
		x.id = open[r.IntN(len(open))]
	}
	if x.kind == "complete" && r.IntN(4) > 0 {
		x.expect(s)
	}
	return x
}

// expect lets Complete expect what it is to come to, if it does.
func (x *ask) expect(s *store.Store) {
	c := s.Clone()
	for c.Complete(x.id, x.n) == api.ErrStore {
	}
	for _, name := range c.Names() {
		b, _ := c.Bytes(name)
		elder, there := s.Bytes(name)
		if !there || string(elder) != string(b) {
			x.name, x.size, x.sum = name, len(b), crc.Of(b)
		}
	}
}

// Calls of all kinds, with outcomes of all kinds, by a client, and by hand of a copy of its store.
func TestModel(t *testing.T) {
	r := rand.New(rand.NewPCG(12, 12))
	came := map[string]int{}
	for range 500 {
		s := store.New()
		model := s.Clone()
		tries := 1 + r.IntN(api.MaxTries)
		c := client(t, s, tries)
		for step := range 150 {
			if r.IntN(3) == 0 {
				outcomes := slices.Repeat([]int{[]int{g, f, l}[r.IntN(3)]}, r.IntN(tries+2))
				outcomes = append(outcomes, []int{g, f, l, 3}[r.IntN(4)])
				s.Script(outcomes...)
				model.Script(outcomes...)
			}
			x := anyAsk(r, s)
			got, want := x.tell(c), x.byHand(model, tries)
			if got != want {
				t.Fatalf("%d of %d tries: %+v: %s, not %s", step, tries, x, got, want)
			}
			came[x.kind+": "+want]++
			asked(t, s, c, 0, model.Calls())
			if s.Failed() != model.Failed() || fmt.Sprint(s.Names(), s.Open()) != fmt.Sprint(model.Names(), model.Open()) {
				t.Fatalf("%d of %d tries: %+v", step, tries, x)
			}
			for _, name := range s.Names() {
				b, _ := s.Bytes(name)
				if want, _ := model.Bytes(name); string(b) != string(want) {
					t.Fatal(step, x, name, b, want)
				}
			}
		}
	}
	for _, way := range []string{"delete: done", "abort: done", "complete: done", "complete: " + api.ErrNone.Error(), "complete: " + api.ErrStore.Error(), "complete: " + api.ErrRange.Error()} {
		if came[way] < 100 {
			t.Error(way, came[way])
		}
	}
}
