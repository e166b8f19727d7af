package call_test

import (
	"fmt"
	"testing"

	"cordwood/api"
)

// scripts are outcomes behind which a client of three tries has an answer.
func scripts() [][]int { return [][]int{nil, {f}, {l}, {f, l}, {l, f}, {l, l}} }

// What is got is nobody else's, its spare room neither.
func TestGotMemory(t *testing.T) {
	for _, script := range scripts() {
		s, c := begun(t, 3, script...)
		first, err := c.Get("a", 1, 3)
		good(t, err)
		second, err := c.Get("a", 0, 5)
		good(t, err)
		third, err := c.Get("a", 0, 5)
		good(t, err)
		spoil(first)
		spoil(second)
		if string(third) != "hello" {
			t.Errorf("%q", third)
		}
		is(t, s, atFirst)
		if b, err := c.Get("a", 1, 3); string(b) != "ell" || err != nil {
			t.Errorf("%q %v", b, err)
		}
	}
}

// spoil writes into all of a list's memory.
func spoil(b []byte) {
	b = b[:cap(b)]
	for i := range b {
		b[i] = '!'
	}
}

func TestListMemory(t *testing.T) {
	for _, script := range scripts() {
		s, c := begun(t, 3, script...)
		first, err := c.List("")
		good(t, err)
		second, err := c.List("")
		good(t, err)
		first = first[:cap(first)]
		for i := range first {
			first[i] = "!"
		}
		if fmt.Sprint(second) != "[a empty]" {
			t.Error(second)
		}
		is(t, s, atFirst)
	}
}

func TestUploadsMemory(t *testing.T) {
	for _, script := range scripts() {
		s, c := begun(t, 3, script...)
		first, err := c.Uploads()
		good(t, err)
		second, err := c.Uploads()
		good(t, err)
		first = first[:cap(first)]
		for i := range first {
			first[i] = 77
		}
		if fmt.Sprint(second) != "[1 2]" {
			t.Error(second)
		}
		is(t, s, atFirst)
	}
}

// What is handed in stays the caller's: it is not changed, not kept, and what lies behind it is left alone.
func TestHandedInMemory(t *testing.T) {
	for _, script := range scripts() {
		s, c := begun(t, 3, script...)
		all := []byte("new and what lies behind")
		good(t, c.Put("n", all[:3]))
		s.Script(script...)
		good(t, c.Part(2, 0, all[:3]))
		s.Script(script...)
		good(t, c.Put("a", all[8:8]))
		if string(all) != "new and what lies behind" {
			t.Errorf("%q", all)
		}
		spoil(all)
		is(t, s, "a= empty= n=new "+parted+"2:none[new] ")
	}
}

// No bytes, and none at all, are the same.
func TestNil(t *testing.T) {
	s, c := begun(t, 3, f)
	good(t, c.Put("n", nil), c.Put("m", []byte{}), c.Part(2, 0, nil), c.Part(2, 1, []byte{}))
	is(t, s, objects+"m= n= "+parted+"2:none[,] ")
	for _, name := range []string{"n", "m"} {
		if b, err := c.Get(name, 0, 0); len(b) != 0 || err != nil {
			t.Error(b, err)
		}
	}
}

// Beside an error there is nothing, whatever the tries ahead of it were told.
func TestNothingBeside(t *testing.T) {
	for _, script := range [][]int{{l, l, l}, {f, l, f}, {f, f, f}} {
		for i := range 5 {
			_, c := begun(t, 3, script...)
			var answer string
			var err error
			switch i {
			case 0:
				answer, err = piece("a", 0, 5)(c)
			case 1:
				answer, err = head("a")(c)
			case 2:
				answer, err = list("")(c)
			case 3:
				answer, err = uploads(c)
			case 4:
				answer, err = start("st")(c)
			}
			if answer != nothing || err != api.ErrStore {
				t.Error(script, i, answer, err)
			}
		}
	}
}
