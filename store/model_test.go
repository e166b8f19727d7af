package store_test

import (
	"fmt"
	"hash/crc32"
	"math/rand/v2"
	"slices"
	"strings"
	"testing"

	"cordwood/api"
	"cordwood/store"
)

// model is a store done in the plainest way: lists of texts, gone through from the beginning; an upload that is no more has no name, and a part that is not there is no text.
type model struct {
	objects [][2]string // name, text
	uploads []modelUpload
	script  []int
	calls   int
	failed  int
}

type modelUpload struct {
	name  string
	parts [5]*string
}

// places are those that the parts of a script are told at: the last two come to nothing.
var places = []int{0, 1, 2, 3, 4, -1, api.MaxParts}

// ask is what a call tells; it is done as the script says.
func (m *model) ask(kind, name string, id, n int, text string) string {
	m.calls++
	outcome := 0
	if len(m.script) > 0 {
		outcome, m.script = m.script[0], m.script[1:]
	}
	if outcome == 1 || outcome == 2 {
		m.failed++
	}
	told := ""
	if outcome != 1 {
		told = m.do(kind, name, id, n, text)
	}
	if outcome == 1 || outcome == 2 {
		return api.ErrStore.Error()
	}
	return told
}

func (m *model) do(kind, name string, id, n int, text string) string {
	switch kind {
	case "start", "put":
		if name == "" || name != strings.ToLower(name) {
			return api.ErrName.Error()
		}
		if kind == "put" {
			m.put(name, text)
			return "done"
		}
		m.uploads = append(m.uploads, modelUpload{name: name})
		return fmt.Sprint(len(m.uploads))
	case "part", "complete", "abort":
		if id < 1 || id > len(m.uploads) || m.uploads[id-1].name == "" {
			return api.ErrNone.Error()
		}
		return m.ofUpload(kind, &m.uploads[id-1], n, text)
	case "list":
		return fmt.Sprint(m.names(name))
	case "uploads":
		return fmt.Sprint(m.open())
	}
	return m.ofObject(kind, name, id, n)
}

func (m *model) ofObject(kind, name string, off, n int) string {
	for i, o := range m.objects {
		if o[0] != name {
			continue
		}
		switch {
		case kind == "delete":
			m.objects = slices.Delete(slices.Clone(m.objects), i, i+1)
			return "done"
		case kind == "head":
			return fmt.Sprint(len(o[1]), crc32.Checksum([]byte(o[1]), crc32.MakeTable(crc32.Castagnoli)))
		case off < 0 || n < 0 || off+n > len(o[1]):
			return api.ErrRange.Error()
		}
		return fmt.Sprintf("%q", o[1][off:off+n])
	}
	return api.ErrNone.Error()
}

func (m *model) ofUpload(kind string, u *modelUpload, n int, text string) string {
	switch kind {
	case "abort":
		u.name = ""
		return "done"
	case "part":
		if n < 0 || n >= len(u.parts) {
			return api.ErrRange.Error()
		}
		u.parts[n] = &text
		return "done"
	}
	if n < 0 || n > len(u.parts) {
		return api.ErrRange.Error()
	}
	all := ""
	for _, p := range u.parts[:n] {
		if p == nil {
			return api.ErrRange.Error()
		}
		all += *p
	}
	m.put(u.name, all)
	u.name = ""
	return "done"
}

func (m *model) put(name, text string) {
	m.objects = slices.DeleteFunc(slices.Clone(m.objects), func(o [2]string) bool { return o[0] == name })
	m.objects = append(m.objects, [2]string{name, text})
}

func (m *model) names(prefix string) []string {
	l := []string{}
	for _, o := range m.objects {
		if strings.HasPrefix(o[0], prefix) {
			l = append(l, o[0])
		}
	}
	slices.Sort(l)
	return l
}

func (m *model) open() []int {
	l := []int{}
	for i, u := range m.uploads {
		if u.name != "" {
			l = append(l, i+1)
		}
	}
	return l
}

func (m *model) clone() *model {
	c := *m
	c.objects, c.uploads, c.script = slices.Clone(m.objects), slices.Clone(m.uploads), slices.Clone(m.script)
	return &c
}

func (m *model) told() string {
	l := slices.Clone(m.objects)
	slices.SortFunc(l, func(a, b [2]string) int { return strings.Compare(a[0], b[0]) })
	return fmt.Sprint(l, m.open(), m.calls, m.failed)
}

// toldPlainly is the same of a store, by what asks it nothing.
func toldPlainly(s *store.Store) string {
	l := [][2]string{}
	for _, name := range s.Names() {
		b, _ := s.Bytes(name)
		l = append(l, [2]string{name, string(b)})
	}
	return fmt.Sprint(l, s.Open(), s.Calls(), s.Failed())
}

// onStore is what the same call tells on a store.
func onStore(s *store.Store, kind, name string, id, n int, text string) string {
	told, err := "done", error(nil)
	switch kind {
	case "put":
		err = s.Put(name, []byte(text))
	case "get":
		var b []byte
		b, err = s.Get(name, id, n)
		told = fmt.Sprintf("%q", b)
	case "head":
		var size int
		var sum uint32
		size, sum, err = s.Head(name)
		told = fmt.Sprint(size, sum)
	case "list":
		var l []string
		l, err = s.List(name)
		told = fmt.Sprint(l)
	case "delete":
		err = s.Delete(name)
	case "start":
		id, err = s.Start(name)
		told = fmt.Sprint(id)
	case "part":
		err = s.Part(id, n, []byte(text))
	case "complete":
		err = s.Complete(id, n)
	case "abort":
		err = s.Abort(id)
	case "uploads":
		var l []int
		l, err = s.Uploads()
		told = fmt.Sprint(l)
	}
	if err != nil {
		return err.Error()
	}
	return told
}

// Calls of all kinds, with outcomes of all kinds, on the store and on the model.
func TestModel(t *testing.T) {
	r := rand.New(rand.NewPCG(11, 11))
	kinds := []string{"put", "put", "get", "get", "head", "list", "delete", "start", "start", "part", "part", "part", "part", "complete", "complete", "complete", "abort", "uploads"}
	names := []string{"a", "b", "c", "ab", "ac", "abc", "A", ""}
	for range 300 {
		s, m := store.New(), &model{}
		for step := range 200 {
			switch r.IntN(20) {
			case 0:
				var outcomes []int
				for range r.IntN(6) {
					outcomes = append(outcomes, []int{0, 1, 2, 3, -1}[r.IntN(5)])
				}
				s.Script(outcomes...)
				m.script = append(m.script, outcomes...)
			case 1: // both go on as copies, behind which the old ones change no more of theirs
				c, k := s.Clone(), m.clone()
				s.Put("spoilt", nil)
				for _, id := range s.Open() {
					s.Part(id, 0, []byte("spoilt"))
				}
				s.Script(store.Fails, store.Fails)
				s, m = c, k
			}
			kind, name := kinds[r.IntN(len(kinds))], names[r.IntN(len(names))]
			id, n := len(m.uploads)+1-r.IntN(6), places[r.IntN(len(places))]
			if kind == "get" {
				id = r.IntN(9) - 1
			}
			text := strings.Repeat(string(rune('A'+step%26)), r.IntN(7))
			got, want := onStore(s, kind, name, id, n, text), m.ask(kind, name, id, n, text)
			if got != want {
				t.Fatal(step, kind, name, id, n, text, got, want)
			}
			if got, want := toldPlainly(s), m.told(); got != want {
				t.Fatal(step, kind, name, id, n, text, got, want)
			}
		}
	}
}
