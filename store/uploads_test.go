package store_test

import (
	"fmt"
	"math"
	"slices"
	"strings"
	"testing"

	"cordwood/api"
	"cordwood/store"
)

func TestStart(t *testing.T) {
	s := store.New()
	for _, name := range wrongNames() {
		refused(t, s, api.ErrName, func() error {
			id, err := s.Start(name)
			if id != 0 {
				t.Error(name, id)
			}
			return err
		})
	}
	for i, name := range rightNames() {
		started(t, s, name, i+1)
		good(t, s.Complete(i+1, 0))
		if b, there := s.Bytes(name); len(b) != 0 || !there {
			t.Error(name, b, there)
		}
	}
}

// No id comes twice: not of an upload that is no more, nor of one that nobody was told of. What began none took none.
func TestIDs(t *testing.T) {
	s := store.New()
	started(t, s, "a", 1)
	good(t, s.Complete(1, 0))
	started(t, s, "a", 2)
	good(t, s.Abort(2))
	started(t, s, "a", 3)
	s.Start("A")
	s.Script(store.Fails)
	s.Start("a")
	started(t, s, "a", 4)
	s.Script(store.Loses)
	if id, err := s.Start("a"); id != 0 || err != api.ErrStore {
		t.Error(id, err)
	}
	started(t, s, "a", 6)
	good(t, s.Abort(6), s.Abort(3))
	s.Script(store.Loses)
	s.Start("A")
	started(t, s, "a", 7)
	if !slices.Equal(s.Open(), []int{4, 5, 7}) {
		t.Error(s.Open())
	}
	good(t, s.Abort(4), s.Abort(5), s.Abort(7), s.Delete("a"))
	is(t, s, "next 8")
}

// Of one name there may be an object, and several uploads, each with parts of its own.
func TestStartBeside(t *testing.T) {
	s := store.New()
	good(t, s.Put("a", []byte("old")))
	started(t, s, "a", 1)
	started(t, s, "a", 2)
	is(t, s, "a=old 1:a[] 2:a[] next 3")
	good(t, s.Part(1, 0, []byte("one")), s.Part(2, 0, []byte("two")), s.Part(2, 1, []byte("2")))
	is(t, s, "a=old 1:a[0=one] 2:a[0=two 1=2] next 3")
	good(t, s.Complete(2, 2))
	is(t, s, "a=two2 1:a[0=one] next 3")
	good(t, s.Delete("a"))
	is(t, s, "1:a[0=one] next 3")
	good(t, s.Put("a", []byte("put")), s.Complete(1, 1))
	is(t, s, "a=one next 3")
}

func TestPart(t *testing.T) {
	s := store.New()
	started(t, s, "a", 1)
	for _, n := range []int{-1, -2, api.MaxParts, api.MaxParts + 1, math.MinInt, math.MaxInt, 1 << 32} {
		refused(t, s, api.ErrRange, func() error { return s.Part(1, n, []byte("x")) })
		for _, id := range []int{0, -1, 2, math.MaxInt, math.MinInt} {
			refused(t, s, api.ErrNone, func() error { return s.Part(id, n, []byte("x")) })
			refused(t, s, api.ErrNone, func() error { return s.Part(id, 0, []byte("x")) })
		}
	}
	good(t, s.Part(1, 0, []byte("first")))
	is(t, s, "1:a[0=first] next 2")
	good(t, s.Part(1, api.MaxParts-1, []byte("last")))
	is(t, s, "1:a[0=first 255=last] next 2")
	good(t, s.Part(1, 3, nil), s.Part(1, 1, []byte{}))
	is(t, s, "1:a[0=first 1= 3= 255=last] next 2")
	for _, text := range []string{"anew", "", "a longer one"} { // in place of an elder one
		good(t, s.Part(1, 0, []byte(text)), s.Part(1, api.MaxParts-1, []byte(text)))
		is(t, s, fmt.Sprintf("1:a[0=%s 1= 3= 255=%s] next 2", text, text))
	}
	if len(s.Names()) != 0 {
		t.Error(s.Names())
	}
}

func TestComplete(t *testing.T) {
	for parts := range 4 {
		s := store.New()
		started(t, s, "a", 1)
		good(t, s.Part(1, 2, []byte("C")), s.Part(1, 0, []byte("AA")), s.Part(1, 1, []byte("B")))
		good(t, s.Complete(1, parts))
		is(t, s, "a="+[]string{"", "AA", "AAB", "AABC"}[parts]+" next 2")
		refused(t, s, api.ErrNone, func() error { return s.Complete(1, parts) })
		refused(t, s, api.ErrNone, func() error { return s.Part(1, 0, nil) })
		refused(t, s, api.ErrNone, func() error { return s.Abort(1) })
	}
}

// Refused, the upload stays, and is completed later.
func TestCompleteRefused(t *testing.T) {
	s := begun(t)
	for _, parts := range []int{-1, math.MinInt, 2, 3, api.MaxParts - 1, api.MaxParts, api.MaxParts + 1, math.MaxInt, 1 << 32} {
		refused(t, s, api.ErrRange, func() error { return s.Complete(1, parts) })
		for _, id := range []int{0, -1, 3, math.MaxInt, math.MinInt} {
			refused(t, s, api.ErrNone, func() error { return s.Complete(id, parts) })
			refused(t, s, api.ErrNone, func() error { return s.Complete(id, 0) })
		}
	}
	for _, parts := range []int{-1, 1} {
		refused(t, s, api.ErrRange, func() error { return s.Complete(2, parts) })
	}
	good(t, s.Part(1, 1, nil), s.Complete(1, 3))
	is(t, s, "a=hello empty= up=PR 2:a[] next 3")
}

// As many parts as there may be, in order, and not one more.
func TestCompleteMost(t *testing.T) {
	s := store.New()
	started(t, s, "a", 1)
	var want strings.Builder
	for i := range api.MaxParts {
		n := i * 77 % api.MaxParts
		if i > 0 {
			for _, parts := range []int{api.MaxParts, api.MaxParts + 1} {
				if err := s.Complete(1, parts); err != api.ErrRange {
					t.Fatal(i, parts, err)
				}
			}
		}
		good(t, s.Part(1, n, fmt.Appendf(nil, "%d,", n)))
		fmt.Fprintf(&want, "%d,", i)
	}
	refused(t, s, api.ErrRange, func() error { return s.Complete(1, api.MaxParts+1) })
	good(t, s.Complete(1, api.MaxParts))
	is(t, s, "a="+want.String()+" next 2")
}

// A part is missing, wherever it is: all ahead of it may be completed.
func TestCompleteMissing(t *testing.T) {
	for missing := range 6 {
		s := store.New()
		started(t, s, "a", 1)
		for n := range 6 {
			if n != missing {
				good(t, s.Part(1, n, []byte{byte('0' + n)}))
			}
		}
		for parts := missing + 1; parts < 8; parts++ {
			refused(t, s, api.ErrRange, func() error { return s.Complete(1, parts) })
		}
		good(t, s.Complete(1, missing))
		is(t, s, "a="+"012345"[:missing]+" next 2")
	}
}

func TestCompleteOver(t *testing.T) {
	for _, text := range []string{"", "new", "longer than it was"} {
		s := store.New()
		good(t, s.Put("a", []byte("older")), s.Put("b", []byte("B")))
		started(t, s, "a", 1)
		good(t, s.Part(1, 0, []byte(text)))
		is(t, s, "a=older b=B 1:a[0="+text+"] next 2")
		good(t, s.Complete(1, 1))
		is(t, s, "a="+text+" b=B next 2")
	}
}

func TestAbort(t *testing.T) {
	s := begun(t)
	for _, id := range []int{0, -1, 3, math.MaxInt, math.MinInt} {
		refused(t, s, api.ErrNone, func() error { return s.Abort(id) })
	}
	good(t, s.Abort(1))
	is(t, s, "a=hello empty= 2:a[] next 3")
	refused(t, s, api.ErrNone, func() error { return s.Abort(1) })
	refused(t, s, api.ErrNone, func() error { return s.Part(1, 0, nil) })
	refused(t, s, api.ErrNone, func() error { return s.Complete(1, 0) })
	good(t, s.Abort(2))
	is(t, s, "a=hello empty= next 3")
	refused(t, s, api.ErrNone, func() error { return s.Abort(2) })
	if len(s.Open()) != 0 {
		t.Error(s.Open())
	}
}

func TestUploadsAndOpen(t *testing.T) {
	s := store.New()
	if l, err := s.Uploads(); len(l) != 0 || err != nil || len(s.Open()) != 0 {
		t.Error(l, err, s.Open())
	}
	var want []int
	for id := 1; id <= 300; id++ {
		started(t, s, fmt.Sprint("n", -id), id)
		want = append(want, id)
	}
	check := func() {
		t.Helper()
		if l, err := s.Uploads(); !slices.Equal(l, want) || err != nil || !slices.Equal(s.Open(), want) {
			t.Error(l, err, s.Open())
		}
	}
	check()
	for id := 3; id <= 300; id += 3 {
		if id%2 == 0 {
			good(t, s.Abort(id))
		} else {
			good(t, s.Complete(id, 0))
		}
	}
	want = slices.DeleteFunc(want, func(id int) bool { return id%3 == 0 })
	check()
	started(t, s, "a", 301)
	want = append(want, 301)
	check()
}
