package vint_test

import (
	"bytes"
	"errors"
	"math"
	"testing"

	"cordwood/api"
	"cordwood/vint"
)

// ask is a call of a Reader.
type ask func(r *vint.Reader) any

func num(most uint64) ask { return func(r *vint.Reader) any { return r.Num(most) } }

func within(from, to int64) ask { return func(r *vint.Reader) any { return r.Int(from, to) } }

func text(most int) ask { return func(r *vint.Reader) any { return string(r.Bytes(most)) } }

func fixed(n int) ask { return func(r *vint.Reader) any { return r.Fixed(n) } }

// ahead is what stands in front of what a case reads, so that places are not 0.
const ahead = "\xac\x02\x05"

// behindAhead is a reader that has read ahead, and has b behind it.
func behindAhead(b []byte) *vint.Reader {
	r := vint.NewReader(append([]byte(ahead), b...))
	r.Num(300)
	r.Num(5)
	return r
}

// reads asks for what b begins with, and holds against it what is answered, and how far the reader is then.
func reads(t *testing.T, b []byte, a ask, want any, size int) {
	t.Helper()
	r := behindAhead(b)
	if got := a(r); got != want || r.Err() != nil || r.At() != len(ahead)+size || r.Left() != len(b)-size {
		t.Fatalf("of %v: %v, not %v; at %d, %d left, %v", b, got, want, r.At(), r.Left(), r.Err())
	}
}

// isNothing tells whether an answer is its zero value.
func isNothing(x any) bool {
	return x == uint64(0) || x == int64(0) || x == ""
}

// hasPlace tells whether err is want, bare if it is ErrEnd, else around the place where ahead ends.
func hasPlace(err, want error) bool {
	if want == api.ErrEnd {
		return err == want
	}
	at, ok := err.(*api.At)
	return ok && at.Pos == len(ahead) && at.Err == want
}

// fails asks for what b begins with, and then for more: the first error stays, and the reader where it was.
func fails(t *testing.T, b []byte, a ask, want error) {
	t.Helper()
	r := behindAhead(b)
	if got := a(r); !isNothing(got) || !hasPlace(r.Err(), want) || r.At() != len(ahead) || r.Left() != len(b) {
		t.Fatalf("of %v: %v; at %d, %d left, %v, not %v", b, got, r.At(), r.Left(), r.Err(), want)
	}
	first := r.Err()
	for i, more := range []ask{num(math.MaxUint64), num(0), within(math.MinInt64, math.MaxInt64), within(1, 0), text(math.MaxInt), text(-1), fixed(0), fixed(1), fixed(8), fixed(9), a} {
		if got := more(r); !isNothing(got) || r.Err() != first || r.At() != len(ahead) || r.Left() != len(b) {
			t.Fatalf("of %v, asked again by %d: %v; at %d, %d left, %v", b, i, got, r.At(), r.Left(), r.Err())
		}
	}
}

// P2.2

func TestReaderReadsOn(t *testing.T) {
	b := vint.Put(nil, 300)
	b = vint.PutInt(b, -65)
	b = append(vint.Put(b, 3), "abc"...)
	b = append(b, 1, 2, 3, 4)
	b = vint.Put(b, math.MaxUint64)
	r := vint.NewReader(b)
	for i, x := range []struct {
		ask  ask
		want any
		at   int
	}{
		{fixed(0), uint64(0), 0},
		{num(300), uint64(300), 2},
		{within(-65, -65), int64(-65), 4},
		{text(3), "abc", 8},
		{fixed(4), uint64(0x04030201), 12},
		{num(math.MaxUint64), uint64(math.MaxUint64), 22},
		{fixed(0), uint64(0), 22},
	} {
		if got := x.ask(r); got != x.want || r.At() != x.at || r.Left() != len(b)-x.at || r.Err() != nil {
			t.Errorf("%d: %v, not %v; at %d, %d left, %v", i, got, x.want, r.At(), r.Left(), r.Err())
		}
	}
	if r.Left() != 0 || r.Num(9) != 0 || r.Err() != api.ErrEnd || r.At() != 22 || r.Left() != 0 {
		t.Error("at the end:", r.At(), r.Left(), r.Err())
	}
}

func TestReaderOfNothing(t *testing.T) {
	for _, b := range [][]byte{nil, {}} {
		for i, a := range []ask{num(9), within(-9, 9), text(9), text(0), fixed(1), fixed(8)} {
			r := vint.NewReader(b)
			if r.At() != 0 || r.Left() != 0 || r.Err() != nil {
				t.Error("new:", r.At(), r.Left(), r.Err())
			}
			if got := a(r); !isNothing(got) || r.At() != 0 || r.Left() != 0 || r.Err() != api.ErrEnd {
				t.Error(i, got, r.At(), r.Left(), r.Err())
			}
		}
	}
}

func TestReaderNum(t *testing.T) {
	for _, n := range numbers() {
		b := append(vint.Put(nil, n), 0, 255)
		size := len(b) - 2
		reads(t, b, num(n), n, size)
		reads(t, b, num(math.MaxUint64), n, size)
		if n < math.MaxUint64 {
			reads(t, b, num(n+1), n, size)
		}
		if n > 0 {
			fails(t, b, num(n-1), api.ErrRange)
			fails(t, b, num(0), api.ErrRange)
		}
	}
}

func TestReaderInt(t *testing.T) {
	for _, n := range ints() {
		b := append(vint.PutInt(nil, n), 0, 255)
		size := len(b) - 2
		reads(t, b, within(n, n), n, size)
		reads(t, b, within(math.MinInt64, math.MaxInt64), n, size)
		if n > math.MinInt64 {
			reads(t, b, within(n-1, n), n, size)
			fails(t, b, within(math.MinInt64, n-1), api.ErrRange)
			fails(t, b, within(n, n-1), api.ErrRange)
		}
		if n < math.MaxInt64 {
			reads(t, b, within(n, n+1), n, size)
			fails(t, b, within(n+1, math.MaxInt64), api.ErrRange)
			fails(t, b, within(n+1, n), api.ErrRange)
		}
	}
}

func TestReaderNumbersTooEarly(t *testing.T) {
	for _, b := range tooEarly() {
		for _, a := range []ask{num(math.MaxUint64), num(0), within(math.MinInt64, math.MaxInt64), within(0, 0), within(1, 0), text(math.MaxInt), text(0), text(-1)} {
			fails(t, b, a, api.ErrEnd)
		}
	}
}

func TestReaderNumbersMisshapen(t *testing.T) {
	for _, b := range misshapen() {
		for _, a := range []ask{num(math.MaxUint64), num(0), within(math.MinInt64, math.MaxInt64), within(0, 0), within(1, 0), text(math.MaxInt), text(0), text(-1)} {
			fails(t, b, a, api.ErrShape)
		}
	}
}

func TestReaderBytes(t *testing.T) {
	long := string(bytes.Repeat([]byte("cord"), 100))
	for _, s := range []string{"", "a", "abc", "\x00\xff\x80", long[:127], long[:128], long} {
		number := vint.Put(nil, uint64(len(s)))
		size := len(number) + len(s)
		b := append(append(bytes.Clone(number), s...), "xyz"...)
		for _, most := range []int{len(s), len(s) + 1, math.MaxInt} {
			reads(t, b, text(most), s, size)
			reads(t, b[:size], text(most), s, size)
			if s != "" {
				fails(t, b[:size-1], text(most), api.ErrEnd)
				fails(t, b[:len(number)], text(most), api.ErrEnd)
			}
		}
		if s == "" {
			reads(t, b, text(-1), s, size)
			reads(t, b, text(math.MinInt), s, size)
			continue
		}
		for _, most := range []int{len(s) - 1, 0, -1, -len(s), math.MinInt} {
			fails(t, b, text(most), api.ErrRange)
			fails(t, b[:len(number)], text(most), api.ErrRange)
		}
	}
}

func TestReaderBytesOfHugeNumbers(t *testing.T) {
	for _, n := range []uint64{math.MaxInt64, math.MaxInt64 - 1, 1 << 31, 1 << 32, 1<<32 + 3} {
		b := append(vint.Put(nil, n), "abc"...)
		fails(t, b, text(math.MaxInt64), api.ErrEnd)
		fails(t, b, text(1<<20), api.ErrRange)
	}
	for _, n := range []uint64{1 << 63, 1<<63 + 3, math.MaxUint64} {
		fails(t, append(vint.Put(nil, n), "abc"...), text(math.MaxInt64), api.ErrRange)
	}
}

func TestReaderFixed(t *testing.T) {
	b := []byte{0xf1, 0xf2, 0xf3, 0xf4, 0xf5, 0xf6, 0xf7, 0xf8, 0xf9, 0xfa}
	for n, want := range []uint64{0, 0xf1, 0xf2f1, 0xf3f2f1, 0xf4f3f2f1, 0xf5f4f3f2f1, 0xf6f5f4f3f2f1, 0xf7f6f5f4f3f2f1, 0xf8f7f6f5f4f3f2f1} {
		reads(t, b, fixed(n), want, n)
		reads(t, b[:n], fixed(n), want, n)
		for short := range n {
			fails(t, b[:short], fixed(n), api.ErrEnd)
		}
	}
	for _, n := range []int{-1, -8, math.MinInt, 9, 10, 11, math.MaxInt} {
		reads(t, b, fixed(n), uint64(0), 0)
		reads(t, nil, fixed(n), uint64(0), 0)
	}
	reads(t, []byte{1, 0, 0, 0, 0, 0, 0, 0}, fixed(8), uint64(1), 8)
	reads(t, []byte{0, 0, 0, 0, 0, 0, 0, 128}, fixed(8), uint64(1<<63), 8)
}

// A call behind the first error neither mends it nor takes its place, whatever it is.
func TestReaderKeepsItsFirstError(t *testing.T) {
	for i, x := range []struct {
		b     []byte
		first ask
		want  error
	}{
		{[]byte{9, 128, 0}, num(8), api.ErrRange},
		{[]byte{128, 0, 9}, num(8), api.ErrShape},
		{[]byte{3, 1, 2}, text(3), api.ErrEnd},
		{[]byte{1, 2, 3}, fixed(4), api.ErrEnd},
		{[]byte{5, 2, 3}, within(-2, 2), api.ErrRange},
	} {
		r := vint.NewReader(x.b)
		x.first(r)
		err := r.Err()
		if !errors.Is(err, x.want) {
			t.Error(i, err)
		}
		var at *api.At
		if errors.As(err, &at) == (x.want == api.ErrEnd) || at != nil && at.Pos != 0 {
			t.Error(i, err)
		}
		if r.Num(200) != 0 || r.Int(-200, 200) != 0 || r.Bytes(0) != nil || r.Fixed(1) != 0 || r.Err() != err || r.At() != 0 || r.Left() != 3 {
			t.Error(i, r.Err(), r.At(), r.Left())
		}
	}
}

func TestReadersAreApart(t *testing.T) {
	b := []byte{5, 2, 'a', 'b'}
	one, two := vint.NewReader(b), vint.NewReader(b)
	one.Num(4)
	if two.Num(5) != 5 || string(two.Bytes(2)) != "ab" || two.Err() != nil || one.At() != 0 || one.Err() == nil {
		t.Error(one.At(), one.Err(), two.At(), two.Err())
	}
}

func TestReaderKeepsNothingHandedIn(t *testing.T) {
	b := withSpare([]byte{2, 'a', 'b', 7, 1, 1})
	r := vint.NewReader(b)
	clear(b)
	if string(r.Bytes(2)) != "ab" || r.Num(7) != 7 || r.Fixed(2) != 0x0101 || r.Left() != 0 || !spareIsWhole(b) {
		t.Error("it reads what was written later:", r.At(), r.Err())
	}
	if r.Fixed(1) != 0 || r.Err() != api.ErrEnd {
		t.Error("it reads behind the length:", r.Err())
	}
}

func TestReaderBytesAreNewMemory(t *testing.T) {
	b := withSpare([]byte{2, 'a', 'b', 2, 'c', 'd', 0, 1, 'e'})
	whole := string(b)
	r := vint.NewReader(b)
	first := r.Bytes(2)
	_ = append(first, 9, 9, 9)
	second := r.Bytes(2)
	none := r.Bytes(2)
	_ = append(none, 9, 9, 9)
	first[0], second[0] = 'y', 'z'
	if string(first) != "yb" || string(second) != "zd" || len(none) != 0 || string(r.Bytes(2)) != "e" || r.Err() != nil {
		t.Errorf("%q, %q, %q: %v", first, second, none, r.Err())
	}
	if string(b) != whole || !spareIsWhole(b) {
		t.Error("what was handed in is changed")
	}
	again := vint.NewReader(b)
	if got := again.Bytes(2); string(got) != "ab" {
		t.Errorf("another reader of the same bytes: %q", got)
	}
}
