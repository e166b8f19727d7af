package epoch_test

import (
	"bytes"
	"encoding/binary"
	"math"
	"slices"
	"testing"

	"cordwood/api"
	"cordwood/epoch"
)

// laid is numbers as they are laid.
func laid(l ...uint64) []byte {
	var b []byte
	for _, n := range l {
		b = binary.AppendUvarint(b, n)
	}
	return b
}

// told is a lineage as its bytes are to be.
func told(l ...api.Pair) []byte {
	b := laid(uint64(len(l)))
	for _, x := range l {
		b = append(b, laid(uint64(x.Epoch), uint64(x.Start))...)
	}
	return b
}

// isError tells whether err is want, bare if pos is below 0, else around pos.
func isError(err, want error, pos int) bool {
	if pos < 0 {
		return err == want
	}
	at, ok := err.(*api.At)
	return ok && at.Pos == pos && at.Err == want
}

func fails(t *testing.T, b []byte, want error, pos int) {
	t.Helper()
	if e, err := epoch.Read(b); e != nil || !isError(err, want, pos) {
		t.Errorf("Read(%v): %v, not %v at %d", b, err, want, pos)
	}
}

func read(t *testing.T, b []byte) *epoch.Line {
	t.Helper()
	e, err := epoch.Read(b)
	if err != nil || e == nil {
		t.Fatalf("Read(%v): %v", b, err)
	}
	return e
}

// P9.4

func TestBytesAreAsTheDocumentHasThem(t *testing.T) {
	for _, x := range []struct {
		l    []api.Pair
		want []byte
	}{
		{nil, []byte{0}},
		{[]api.Pair{p(0, 0)}, []byte{1, 0, 0}},
		{[]api.Pair{p(1, 0), p(3, 10)}, []byte{2, 1, 0, 3, 10}},
		{[]api.Pair{p(127, 300)}, []byte{1, 127, 172, 2}},
		{[]api.Pair{p(128, 127), p(300, 128)}, []byte{2, 128, 1, 127, 172, 2, 128, 1}},
		{[]api.Pair{p(api.MaxEpoch, api.MaxOffset)}, []byte{1, 128, 128, 128, 128, 4, 128, 128, 128, 128, 128, 32}},
	} {
		if got := made(t, x.l...).Bytes(); !bytes.Equal(got, x.want) {
			t.Errorf("%v: %v, not %v", x.l, got, x.want)
		}
	}
	e := three(t)
	e.CutStart(7)
	e.CutEnd(20)
	e.Begin(300, 400)
	if got, want := e.Bytes(), told(p(1, 7), p(3, 10), p(300, 400)); !bytes.Equal(got, want) {
		t.Errorf("%v, not %v", got, want)
	}
	e.CutEnd(0)
	if got := e.Bytes(); !bytes.Equal(got, []byte{0}) {
		t.Error(got)
	}
}

func TestBytesReadBack(t *testing.T) {
	cut := three(t)
	cut.CutStart(math.MaxInt64)
	for i, e := range []*epoch.Line{
		made(t), made(t, p(0, 0)), made(t, p(api.MaxEpoch, api.MaxOffset)), three(t), cut,
		made(t, p(0, 0), p(127, 127), p(128, 128), p(16384, 16384), p(api.MaxEpoch, api.MaxOffset)),
		made(t, many(api.MaxEpochs-1)...), made(t, many(api.MaxEpochs)...),
	} {
		f := read(t, e.Bytes())
		if has(t, f, e.Pairs()...); !bytes.Equal(f.Bytes(), e.Bytes()) {
			t.Errorf("%d: %v, not %v", i, f.Bytes(), e.Bytes())
		}
	}
}

func TestReadGoesOn(t *testing.T) {
	e := read(t, three(t).Bytes())
	if err := e.Begin(6, 30); err != api.ErrFenced {
		t.Error(err)
	}
	if err := e.Begin(8, 19); err != api.ErrShape {
		t.Error(err)
	}
	if err := e.Begin(8, 30); err != nil {
		t.Error(err)
	}
	has(t, e, p(1, 5), p(3, 10), p(7, 20), p(8, 30))
	full := read(t, told(many(api.MaxEpochs)...))
	if err := full.Begin(600, 600); err != api.ErrMany {
		t.Error(err)
	}
}

func TestReadOfBytesThatEndTooEarly(t *testing.T) {
	for _, e := range []*epoch.Line{
		made(t), three(t), made(t, p(300, 300), p(api.MaxEpoch, api.MaxOffset)), made(t, many(api.MaxEpochs)...),
	} {
		b := e.Bytes()
		for n := range b {
			fails(t, b[:n], api.ErrEnd, -1)
		}
	}
	fails(t, nil, api.ErrEnd, -1)
	fails(t, []byte{}, api.ErrEnd, -1)
	fails(t, []byte{1}, api.ErrEnd, -1)
	fails(t, []byte{1, 5}, api.ErrEnd, -1)
	fails(t, []byte{1, 5, 128}, api.ErrEnd, -1)
	fails(t, []byte{128}, api.ErrEnd, -1)
	fails(t, []byte{2, 9, 9, 1, 1}[:4], api.ErrEnd, -1) // the second one would not rise
	fails(t, laid(api.MaxEpochs), api.ErrEnd, -1)
	spare := append(made(t, p(1, 2)).Bytes()[:2], 7, 7)[:2]
	fails(t, spare, api.ErrEnd, -1) // what lies behind the length is not read
}

func TestReadOfACount(t *testing.T) {
	has(t, read(t, laid(0)))
	full := told(many(api.MaxEpochs)...)
	has(t, read(t, full), many(api.MaxEpochs)...)
	fails(t, told(many(api.MaxEpochs+1)...), api.ErrRange, 0)
	for _, n := range []uint64{api.MaxEpochs + 1, 1 << 31, 1 << 32, 1<<32 + 1, 1 << 63, math.MaxUint64} {
		fails(t, laid(n), api.ErrRange, 0)
		fails(t, laid(n, 1, 5), api.ErrRange, 0)
	}
}

func TestReadOfANumberBeyondItsRange(t *testing.T) {
	for _, n := range []uint64{api.MaxEpoch + 1, 1 << 32, 1<<32 + 5, 1 << 63, math.MaxUint64} {
		fails(t, laid(1, n, 5), api.ErrRange, 1)
		fails(t, laid(1, n), api.ErrRange, 1)
		fails(t, laid(2, 300, 400, n, 500), api.ErrRange, 5)
		fails(t, laid(2, 9, 9, n, 500), api.ErrRange, 3)
	}
	for _, n := range []uint64{api.MaxOffset + 1, 1 << 63, 1<<63 + 5, math.MaxUint64} {
		fails(t, laid(1, 5, n), api.ErrRange, 2)
		fails(t, laid(1, 300, n), api.ErrRange, 3)
		fails(t, laid(2, 300, 400, 500, n), api.ErrRange, 7)
		fails(t, laid(2, 9, 9, 8, n), api.ErrRange, 4) // nor do the epochs rise
	}
	for _, l := range [][]api.Pair{{p(api.MaxEpoch, 0)}, {p(0, api.MaxOffset)}, {p(0, 0), p(api.MaxEpoch, api.MaxOffset)}} {
		has(t, read(t, told(l...)), l...)
	}
}

func TestReadOfNumbersThatAreNone(t *testing.T) {
	ten := bytes.Repeat([]byte{0x80}, 10)
	for _, x := range []struct {
		b   []byte
		pos int
	}{
		{[]byte{0x80, 0}, 0},
		{[]byte{0x81, 0, 5, 5}, 0},
		{[]byte{1, 0x85, 0, 5}, 1},
		{[]byte{1, 5, 0x85, 0}, 2},
		{[]byte{2, 5, 5, 0x86, 0, 6}, 3},
		{[]byte{2, 5, 5, 6, 0x86, 0}, 4},
		{append([]byte{1}, ten...), 1},
		{append([]byte{1, 5}, ten...), 2},
		{ten, 0},
	} {
		fails(t, x.b, api.ErrShape, x.pos)
	}
}

func TestReadOfAByteMoreBehind(t *testing.T) {
	for _, e := range []*epoch.Line{
		made(t), made(t, p(0, 0)), three(t), made(t, p(300, 300), p(api.MaxEpoch, api.MaxOffset)), made(t, many(api.MaxEpochs)...),
	} {
		b := e.Bytes()
		for _, behind := range [][]byte{{0}, {7}, {0x80}, {0xff}, {1, 2, 3}, b} {
			fails(t, append(bytes.Clone(b), behind...), api.ErrMany, len(b))
		}
	}
	fails(t, []byte{1, 1, 1, 1}, api.ErrMany, 3)
}

func TestReadOfWhatDoesNotRise(t *testing.T) {
	for _, l := range [][]api.Pair{
		{p(1, 5), p(1, 6)}, {p(2, 5), p(1, 6)},
		{p(1, 5), p(2, 5)}, {p(1, 5), p(2, 4)},
		{p(0, 0), p(0, 0)},
		{p(1, 5), p(2, 7), p(2, 8)}, {p(1, 5), p(2, 7), p(3, 6)},
		make([]api.Pair, api.MaxEpochs),
	} {
		b := told(l...)
		fails(t, b, api.ErrShape, -1)
		fails(t, append(b, 9), api.ErrMany, len(b)) // the byte behind is met first
		fails(t, b[:len(b)-1], api.ErrEnd, -1)
	}
}

func TestBytesAreNewMemory(t *testing.T) {
	e := three(t)
	first, second := e.Bytes(), e.Bytes()
	for i := range first[:cap(first)] {
		first[:cap(first)][i] = 77
	}
	if want := told(p(1, 5), p(3, 10), p(7, 20)); !bytes.Equal(second, want) || !bytes.Equal(e.Bytes(), want) {
		t.Error("two answers share memory:", second, e.Bytes())
	}
}

func TestReadKeepsNothingHandedIn(t *testing.T) {
	b := append(told(p(1, 5), p(3, 10)), 7, 7, 7)
	e := read(t, b[:len(b)-3])
	if !bytes.Equal(b, append(told(p(1, 5), p(3, 10)), 7, 7, 7)) {
		t.Error("what was handed in is changed:", b)
	}
	clear(b)
	has(t, e, p(1, 5), p(3, 10))
	e.Begin(9, 90)
	if !slices.Equal(b, make([]byte, len(b))) {
		t.Error("it writes into what was handed in:", b)
	}
}
