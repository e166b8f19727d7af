package part_test

import (
	"testing"

	"cordwood/part"
)

// spoil writes into all of a list's memory.
func spoil(b []byte) {
	b = b[:cap(b)]
	for i := range b {
		b[i] = '!'
	}
}

// Make looks at the bytes and no further, and keeps nothing of them.
func TestMakeMemory(t *testing.T) {
	all := []byte("12345 and what lies behind")
	p := plan(t, all[:5], 2)
	if string(all) != "12345 and what lies behind" {
		t.Errorf("%q", all)
	}
	if p != plan(t, []byte("12345"), 2) {
		t.Errorf("%+v", p)
	}
	same := p
	spoil(all)
	if p != same {
		t.Errorf("%+v, not %+v", p, same)
	}
	if from, to, is := p.Range(2); from != 4 || to != 5 || !is || p != same {
		t.Error(from, to, is, p)
	}
}

// Step changes neither the plan nor the bytes, nor what lies behind them, and what it lays is nobody else's.
func TestStepMemory(t *testing.T) {
	for _, script := range [][]int{nil, {f}, {l}, {f, l}, {l, f}, {l, l}} {
		for _, x := range sizes() {
			w := lay(t, x[0], x[1], 3)
			same := w.p
			for range w.p.Parts + 2 {
				w.s.Script(script...)
				all := append(text(x[0]), " and what lies behind"...)
				want := string(all)
				id, done, _, err := part.Step(w.c, w.p, all[:x[0]], w.id, w.done)
				if err != nil {
					t.Fatal(x, w.id, w.done, err)
				}
				if string(all) != want || w.p != same {
					t.Errorf("%v at %d and %d: %q %+v", x, w.id, w.done, all, w.p)
				}
				w.id, w.done = id, done
				spoil(all)
			}
			w.there()
			laid, _ := w.s.Bytes("x")
			spoil(laid)
			w.there()
		}
	}
}

// The bytes of a Step that is not done stay as they are, too.
func TestRefusedMemory(t *testing.T) {
	w := lay(t, 5, 2, 1)
	all := []byte("12345 and what lies behind")
	for _, n := range []int{0, 4, 5, 6} {
		for _, done := range []int{-1, 0, 3, 4} {
			part.Step(w.c, w.p, all[:n], 7, done)
			if string(all) != "12345 and what lies behind" {
				t.Errorf("%d %d: %q", n, done, all)
			}
		}
	}
}

// No bytes, and none at all, are the same.
func TestNil(t *testing.T) {
	for _, b := range [][]byte{nil, {}, text(5)[:0]} {
		w := lay(t, 0, 3, 1)
		if p := plan(t, b, 3); p != w.p {
			t.Errorf("%+v, not %+v", p, w.p)
		}
		w.b = b
		w.tells(1, 0, false, nil, 1)
		w.tells(1, 0, true, nil, 1)
		w.there()
	}
}
