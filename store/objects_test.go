package store_test

import (
	"bytes"
	"fmt"
	"math"
	"slices"
	"strings"
	"testing"

	"cordwood/api"
	"cordwood/crc"
	"cordwood/store"
)

func TestPut(t *testing.T) {
	s := store.New()
	for _, name := range wrongNames() {
		refused(t, s, api.ErrName, func() error { return s.Put(name, []byte("x")) })
	}
	is(t, s, "next 1")
	names := rightNames()
	for i, name := range names {
		text := strings.Repeat("x", i)
		good(t, s.Put(name, []byte(text)))
		if b, there := s.Bytes(name); string(b) != text || !there {
			t.Error(name, b, there)
		}
	}
	slices.Sort(names)
	if !slices.Equal(s.Names(), names) {
		t.Error(s.Names())
	}
}

// Over an object that is there, of more bytes, of fewer and of none.
func TestPutOver(t *testing.T) {
	s := store.New()
	for _, text := range []string{"", "abc", "longer than that", "x", "", "y"} {
		good(t, s.Put("b", []byte("another one")), s.Put("a", []byte(text)))
		is(t, s, "a="+text+" b=another one next 1")
		if n, sum, err := s.Head("a"); n != len(text) || sum != crc.Of([]byte(text)) || err != nil {
			t.Error(n, sum, err)
		}
		if b, err := s.Get("a", 0, len(text)); string(b) != text || err != nil {
			t.Error(b, err)
		}
		if _, err := s.Get("a", 0, len(text)+1); err != api.ErrRange {
			t.Error(err)
		}
	}
}

func TestPutBytes(t *testing.T) {
	s := store.New()
	for _, b := range [][]byte{nil, {}, {0}, {0, 255, 0}, bytes.Repeat([]byte{7, 200}, 100000)} {
		good(t, s.Put("a", b))
		if got, there := s.Bytes("a"); !bytes.Equal(got, b) || !there {
			t.Error(len(b), len(got), there)
		}
	}
}

// Each piece within is there; each one that is not all within is refused.
func TestGet(t *testing.T) {
	s := begun(t)
	text := "hello"
	for off := -2; off <= len(text)+2; off++ {
		for n := -2; n <= len(text)+4; n++ {
			b, err := s.Get("a", off, n)
			if off >= 0 && n >= 0 && off+n <= len(text) {
				if string(b) != text[off:off+n] || err != nil {
					t.Error(off, n, b, err)
				}
			} else if len(b) != 0 || err != api.ErrRange {
				t.Error(off, n, b, err)
			}
		}
	}
	counted(t, s, 7+10*12, 0)
}

func TestGetRefused(t *testing.T) {
	s := begun(t)
	for _, x := range [][2]int{
		{math.MaxInt, math.MaxInt}, {1, math.MaxInt}, {math.MaxInt, 1}, {5, math.MaxInt - 4}, {math.MaxInt, 0}, {0, math.MaxInt},
		{math.MinInt, math.MinInt}, {math.MinInt, 0}, {0, math.MinInt}, {math.MinInt, math.MaxInt}, {math.MaxInt, math.MinInt}, {-1, 3}, {3, -1}, {5, 1}, {6, 0}, {6, -1}, {1 << 32, 0}, {0, 1 << 32},
	} {
		for _, name := range []string{"a", "empty"} {
			refused(t, s, api.ErrRange, func() error {
				b, err := s.Get(name, x[0], x[1])
				if len(b) != 0 {
					t.Error(x, b)
				}
				return err
			})
		}
	}
	for _, name := range append(wrongNames(), "b", "hello", "up", "aa") {
		for _, n := range []int{0, -1, 9} {
			if b, err := s.Get(name, n, n); len(b) != 0 || err != api.ErrNone {
				t.Error(name, b, err)
			}
		}
	}
}

func TestGetOfNothing(t *testing.T) {
	s := begun(t)
	if b, err := s.Get("empty", 0, 0); len(b) != 0 || err != nil {
		t.Error(b, err)
	}
	for _, x := range [][2]int{{0, 1}, {1, 0}, {-1, 1}, {1, -1}} {
		refused(t, s, api.ErrRange, func() error { _, err := s.Get("empty", x[0], x[1]); return err })
	}
}

func TestHead(t *testing.T) {
	s := store.New()
	for _, b := range [][]byte{nil, {0}, {0, 0}, []byte("123456789"), bytes.Repeat([]byte("xyz"), 5000)} {
		good(t, s.Put("a", b))
		if n, sum, err := s.Head("a"); n != len(b) || sum != crc.Of(b) || err != nil {
			t.Error(len(b), n, sum, err)
		}
	}
	good(t, s.Put("nine", []byte("123456789")), s.Put("none", nil))
	if n, sum, err := s.Head("nine"); n != 9 || sum != 0xe3069283 || err != nil {
		t.Error(n, sum, err)
	}
	if n, sum, err := s.Head("none"); n != 0 || sum != 0 || err != nil {
		t.Error(n, sum, err)
	}
	started(t, s, "up", 1)
	for _, name := range append(wrongNames(), "b", "up") {
		refused(t, s, api.ErrNone, func() error {
			n, sum, err := s.Head(name)
			if n != 0 || sum != 0 {
				t.Error(name, n, sum)
			}
			return err
		})
	}
}

func TestList(t *testing.T) {
	s := store.New()
	for _, prefix := range []string{"", "a", "A"} {
		if l, err := s.List(prefix); len(l) != 0 || err != nil {
			t.Error(prefix, l, err)
		}
	}
	good(t, s.Put("seg-2", nil), s.Put("b", nil), s.Put("seg-10", nil), s.Put("a", nil), s.Put("seg", nil), s.Put("seg-1", nil), s.Put("aseg-", nil), s.Put("seg_", nil), s.Put("seg.", nil))
	started(t, s, "seg-up", 1)
	for _, x := range []struct{ prefix, want string }{
		{"", "[a aseg- b seg seg-1 seg-10 seg-2 seg. seg_]"},
		{"s", "[seg seg-1 seg-10 seg-2 seg. seg_]"},
		{"seg-", "[seg-1 seg-10 seg-2]"},
		{"seg-1", "[seg-1 seg-10]"},
		{"seg-10", "[seg-10]"},
		{"seg-100", "[]"},
		{"b", "[b]"},
		{"a", "[a aseg-]"},
		{"c", "[]"},
		{"eg", "[]"},
		{"S", "[]"},
		{"\x00", "[]"},
		{"seg-\xff", "[]"},
		{"seg*", "[]"},
		{strings.Repeat("s", 1000), "[]"},
	} {
		if l, err := s.List(x.prefix); fmt.Sprint(l) != x.want || err != nil {
			t.Error(x.prefix, l, err)
		}
	}
}

// Many names, however they came.
func TestListRises(t *testing.T) {
	s := store.New()
	var want []string
	for i := range 500 {
		name := fmt.Sprint("n", i*7919%500)
		want = append(want, name)
		good(t, s.Put(name, nil))
	}
	slices.Sort(want)
	l, err := s.List("n")
	if !slices.Equal(l, want) || err != nil || !slices.Equal(s.Names(), want) {
		t.Error(l, err)
	}
}

func TestDelete(t *testing.T) {
	s := begun(t)
	for _, name := range append(wrongNames(), "b", "up") {
		refused(t, s, api.ErrNone, func() error { return s.Delete(name) })
	}
	good(t, s.Delete("a"))
	is(t, s, "empty= 1:up[0=P 2=R 255=Z] 2:a[] next 3")
	refused(t, s, api.ErrNone, func() error { return s.Delete("a") })
	refused(t, s, api.ErrNone, func() error { _, err := s.Get("a", 0, 0); return err })
	refused(t, s, api.ErrNone, func() error { _, _, err := s.Head("a"); return err })
	if b, there := s.Bytes("a"); len(b) != 0 || there {
		t.Error(b, there)
	}
	good(t, s.Delete("empty"))
	refused(t, s, api.ErrNone, func() error { return s.Delete("empty") })
	good(t, s.Put("a", []byte("again")))
	is(t, s, "a=again 1:up[0=P 2=R 255=Z] 2:a[] next 3")
}

func TestNamesAndBytes(t *testing.T) {
	s := store.New()
	if len(s.Names()) != 0 {
		t.Error(s.Names())
	}
	if b, there := s.Bytes("a"); len(b) != 0 || there {
		t.Error(b, there)
	}
	good(t, s.Put("c", []byte("C")), s.Put("a", nil), s.Put("b", []byte("BB")))
	if !slices.Equal(s.Names(), []string{"a", "b", "c"}) {
		t.Error(s.Names())
	}
	for name, want := range map[string]string{"a": "", "b": "BB", "c": "C"} {
		if b, there := s.Bytes(name); string(b) != want || !there {
			t.Error(name, b, there)
		}
	}
	for _, name := range append(wrongNames(), "d", "aa") {
		if b, there := s.Bytes(name); len(b) != 0 || there {
			t.Error(name, b, there)
		}
	}
}

// What is handed in is the caller's: a change of it is none of the object's, and what lies behind it stays.
func TestHandedIn(t *testing.T) {
	s := store.New()
	started(t, s, "up", 1)
	b := []byte("abcdef")
	good(t, s.Put("a", b[:3]), s.Part(1, 0, b[:3]), s.Part(1, 1, b[3:5]))
	if string(b) != "abcdef" {
		t.Error(string(b))
	}
	copy(b, "ZZZZZZ")
	is(t, s, "a=abc 1:up[0=abc 1=de] next 2")
	good(t, s.Complete(1, 2))
	is(t, s, "a=abc up=abcde next 2")
	if string(b) != "ZZZZZZ" {
		t.Error(string(b))
	}
}

// spoil writes into all that a list has, its spare room too, and appends to it.
func spoil[T any](l []T, other T) {
	for i := range l[:cap(l)] {
		l[:cap(l)][i] = other
	}
	for range 20 {
		l = append(l, other)
	}
}

// What is handed out is the caller's: a change of it is none of the store's, nor of another answer's, nor of a copy's.
func TestHandedOut(t *testing.T) {
	s := begun(t)
	good(t, s.Complete(1, 1), s.Part(2, 0, []byte("V")))
	started(t, s, "up", 3)
	c := s.Clone()
	want := told(t, s)
	for range 2 {
		for _, name := range []string{"a", "up", "empty"} {
			kept, _ := s.Bytes(name)
			text := string(kept)
			for n := range len(text) + 1 {
				b, err := s.Get(name, 0, n)
				good(t, err)
				spoil(b, '!')
			}
			b, _ := s.Bytes(name)
			spoil(b, '!')
			if string(kept) != text {
				t.Error(name, string(kept))
			}
		}
		keptNames, keptIDs := s.Names(), s.Open()
		names, err := s.List("")
		good(t, err)
		ids, err := s.Uploads()
		good(t, err)
		spoil(names, "no")
		spoil(s.Names(), "no")
		spoil(ids, 9)
		spoil(s.Open(), 9)
		if !slices.Equal(keptNames, []string{"a", "empty", "up"}) || !slices.Equal(keptIDs, []int{2, 3}) {
			t.Error(keptNames, keptIDs)
		}
		is(t, s, want)
		is(t, c, want)
	}
}
