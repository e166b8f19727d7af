package mani_test

import (
	"bytes"
	"encoding/binary"
	"math"
	"strings"
	"testing"

	"cordwood/api"
	"cordwood/mani"
)

// field is a number, or a name, as it stands in the bytes, and the most that may be read there.
type field struct {
	b    []byte
	most uint64
	name bool
}

// number is a field of a number.
func number(n, most uint64) field { return field{binary.AppendUvarint(nil, n), most, false} }

// fields is what stands in the bytes of a manifest, one behind the other.
func fields(m api.Manifest) []field {
	const most = 1 << 62
	l := []field{
		number(uint64(m.ID), most), number(uint64(m.Base), most), number(uint64(m.End), most),
		{binary.AppendVarint(nil, m.Time), 2 * most, false}, // 2^62 comes to 2^63, and -2^62 to one less
		number(uint64(len(m.Epochs)), api.MaxEpochs),
	}
	for _, x := range m.Epochs {
		l = append(l, number(uint64(x.Epoch), most), number(uint64(x.Start), most))
	}
	l = append(l, number(uint64(len(m.Objects)), api.MaxObjects))
	for _, x := range m.Objects {
		name := append(binary.AppendUvarint(nil, uint64(len(x.Name))), x.Name...)
		l = append(l, field{name, api.MaxName, true}, number(uint64(x.Len), most), number(uint64(x.Sum), math.MaxUint32))
	}
	return l
}

// laid is fields one behind the other.
func laid(l []field) []byte {
	var b []byte
	for _, f := range l {
		b = append(b, f.b...)
	}
	return b
}

// sealed is b with its sum behind, by the library.
func sealed(b []byte) []byte { return binary.LittleEndian.AppendUint32(bytes.Clone(b), sum(b)) }

// told is a manifest as its bytes are to be.
func told(m api.Manifest) []byte { return sealed(laid(fields(m))) }

// fails checks that bytes, sealed, are not read.
func fails(t *testing.T, b []byte, want error, pos int) {
	t.Helper()
	if m, err := mani.Read(b); !isNothing(m) || !isError(err, want, pos) {
		t.Errorf("Read(%v): %+v, %v, not %v at %d", b, m, err, want, pos)
	}
}

// some are manifests that may be, of all kinds.
func some() []api.Manifest {
	return []api.Manifest{
		two(), full(), least(),
		with(func(m *api.Manifest) { m.ID, m.End, m.Time = 300, 1<<20, -300 }),
		with(func(m *api.Manifest) { m.Epochs, m.Objects = m.Epochs[:1], objects(api.MaxObjects) }),
		with(func(m *api.Manifest) {
			m.Base, m.End, m.Epochs = 300, api.MaxOffset, []api.Pair{p(0, 300), p(127, 301), p(128, 400), p(api.MaxEpoch, api.MaxOffset-1)}
		}),
		with(func(m *api.Manifest) {
			m.Objects = []api.Object{o(strings.Repeat("z", api.MaxName), maxLen, 1<<31), o("0._-", 128, 127)}
		}),
	}
}

// P14.2: Bytes

func TestBytesAreAsTheDocumentHasThem(t *testing.T) {
	for _, x := range []struct {
		m    api.Manifest
		want []byte
	}{
		{least(), []byte{0, 0, 1, 0, 1, 0, 0, 1, 1, '-', 0, 0}},
		{two(), []byte{7, 10, 20, 10, 2, 2, 10, 3, 15, 2, 1, 'a', 4, 9, 1, 'b', 0, 0}},
		{with(func(m *api.Manifest) { m.Time = -5 }), []byte{7, 10, 20, 9, 2, 2, 10, 3, 15, 2, 1, 'a', 4, 9, 1, 'b', 0, 0}},
		{
			api.Manifest{
				ID: 300, Base: 128, End: 16384, Time: 64, Epochs: []api.Pair{p(129, 128), p(1000, 130)},
				Objects: []api.Object{o("log.0_x", 1<<30, math.MaxUint32)},
			},
			[]byte{172, 2, 128, 1, 128, 128, 1, 128, 1, 2, 129, 1, 128, 1, 232, 7, 130, 1, 1, 7, 'l', 'o', 'g', '.', '0', '_', 'x', 128, 128, 128, 128, 4, 255, 255, 255, 255, 15},
		},
	} {
		b, err := mani.Bytes(x.m)
		if err != nil || !bytes.Equal(b, sealed(x.want)) {
			t.Errorf("%+v: %v, %v, not %v", x.m, b, err, sealed(x.want))
		}
	}
}

func TestBytesReadBack(t *testing.T) {
	for _, m := range some() {
		b, err := mani.Bytes(m)
		if err != nil || !bytes.Equal(b, told(m)) {
			t.Errorf("%+v: %v, %v", m, b, err)
		}
		n, err := mani.Read(b)
		if err != nil || !alike(m, n) || !mani.Same(m, n) {
			t.Errorf("%+v: %+v, %v", m, n, err)
		}
		if again, err := mani.Bytes(n); err != nil || !bytes.Equal(again, b) {
			t.Errorf("%+v: %v, %v", m, again, err)
		}
	}
}

// P14.2: Read

func TestReadOfATurnedBit(t *testing.T) {
	for _, m := range some()[2:] {
		b := told(m)
		for bit := range 8 * len(b) {
			c := bytes.Clone(b)
			c[bit/8] ^= 1 << (bit % 8)
			fails(t, c, api.ErrSum, -1)
		}
	}
}

func TestReadOfBytesThatEndTooEarly(t *testing.T) {
	for _, b := range [][]byte{nil, {}, {7}, {1, 2, 3}} {
		fails(t, b, api.ErrEnd, -1)
	}
	for _, m := range some() {
		whole := told(m)
		for n := range whole {
			want := api.ErrSum
			if n < 4 {
				want = api.ErrEnd
			}
			fails(t, whole[:n], want, -1)
		}
		b := laid(fields(m))
		for n := range b {
			fails(t, sealed(b[:n]), api.ErrEnd, -1)
		}
	}
}

func TestReadOfBytesBehind(t *testing.T) {
	for _, m := range some() {
		whole, b := told(m), laid(fields(m))
		for _, behind := range [][]byte{{0}, {7}, {0x80}, {0xff}, {1, 2, 3, 4}, b} {
			fails(t, append(bytes.Clone(whole), behind...), api.ErrSum, -1)
			fails(t, sealed(append(bytes.Clone(b), behind...)), api.ErrShape, len(b))
		}
	}
}

// otherFields checks each number and each name of a manifest, with bytes in its place: what Read tells of them there.
func otherFields(t *testing.T, other func(f field) (b []byte, want error)) {
	t.Helper()
	for _, m := range some() {
		l := fields(m)
		at := 0
		for i, f := range l {
			b, want := other(f)
			l[i].b = b
			fails(t, sealed(laid(l)), want, at)
			fails(t, sealed(laid(l[:i+1])), want, at) // whatever is behind
			l[i] = f
			at += len(f.b)
		}
	}
}

func TestReadOfWhatIsTooGreat(t *testing.T) {
	for _, n := range []func(f field) uint64{
		func(f field) uint64 { return f.most + 1 },
		func(f field) uint64 { return f.most + 2 }, // of a time the one to the other side
		func(f field) uint64 { return math.MaxUint64 - 1 },
		func(f field) uint64 { return math.MaxUint64 },
	} {
		otherFields(t, func(f field) ([]byte, error) { return binary.AppendUvarint(nil, n(f)), api.ErrRange })
	}
	otherFields(t, func(f field) ([]byte, error) {
		b := binary.AppendUvarint(nil, f.most+1)
		if f.name {
			b = append(b, strings.Repeat("a", api.MaxName+1)...)
		}
		return b, api.ErrRange
	})
}

func TestReadOfNumbersThatAreNone(t *testing.T) {
	otherFields(t, func(f field) ([]byte, error) { return []byte{0x80, 0}, api.ErrShape })
	otherFields(t, func(f field) ([]byte, error) { return bytes.Repeat([]byte{0x80}, 10), api.ErrShape })
	otherFields(t, func(f field) ([]byte, error) { return append(bytes.Repeat([]byte{0xff}, 9), 2), api.ErrShape })
	otherFields(t, func(f field) ([]byte, error) {
		_, size := binary.Uvarint(f.b)
		b := append(bytes.Clone(f.b[:size-1]), f.b[size-1]|0x80, 0) // a byte more than is needed
		return append(b, f.b[size:]...), api.ErrShape
	})
}

// A name that is said to have more bytes than there are.
func TestReadOfANameThatIsCutOff(t *testing.T) {
	for n := range api.MaxName + 1 {
		ahead := []byte{7, 10, 20, 10, 1, 2, 10, 1}
		for is := range n {
			name := append([]byte{byte(n)}, strings.Repeat("n", is)...)
			fails(t, sealed(append(bytes.Clone(ahead), name...)), api.ErrEnd, -1)
		}
	}
}

// At their bounds numbers are read, and Valid tells of them.
func TestReadOfNumbersAtTheirBounds(t *testing.T) {
	const most = 1 << 62
	four := func(m *api.Manifest) { m.Objects = objects(4) }
	for _, x := range []fault{
		{func(m *api.Manifest) { m.ID = most }, api.ErrRange, -1},
		{func(m *api.Manifest) { m.Base = most }, api.ErrRange, -1},
		{func(m *api.Manifest) { m.End = most }, api.ErrRange, -1},
		{func(m *api.Manifest) { m.Time = most }, api.ErrRange, -1},
		{func(m *api.Manifest) { m.Time = -most }, api.ErrRange, -1},
		{func(m *api.Manifest) { m.Epochs[0].Epoch = most }, api.ErrRange, -1},
		{func(m *api.Manifest) { m.Epochs[0].Start = most }, api.ErrRange, -1},
		{func(m *api.Manifest) { m.Epochs[1].Start = most }, api.ErrRange, -1},
		{func(m *api.Manifest) { m.Objects[0].Len = most }, api.ErrRange, 0},
		{func(m *api.Manifest) { m.Objects[3].Len = most }, api.ErrRange, 3},
	} {
		m := with(four, x.do)
		if !canBeRead(m) {
			t.Errorf("%+v", m)
		}
		mayNot(t, m, x.want, x.pos)
	}
	mayBe(t, with(four, func(m *api.Manifest) { m.Objects[3].Sum = math.MaxUint32 }))
	mayBe(t, full())
}

// Numbers that go round to ones that may be, if they are cut, are told all the same.
func TestReadOfNumbersThatGoRound(t *testing.T) {
	for _, m := range some() {
		l := fields(m)
		at := 0
		for i, f := range l {
			n, size := binary.Uvarint(f.b)
			for _, more := range []uint64{1 << 32, 1 << 63} {
				if n+more <= f.most { // that many may be read
					continue
				}
				l[i].b = append(binary.AppendUvarint(nil, n+more), f.b[size:]...)
				fails(t, sealed(laid(l)), api.ErrRange, at)
			}
			l[i] = f
			at += len(f.b)
		}
	}
}

// What Read tells of what is read, and may not be.
func TestReadOfWhatMayNotBe(t *testing.T) {
	four := func(m *api.Manifest) { m.Objects = objects(4) }
	tried := 0
	for _, clause := range faults() {
		for _, x := range clause {
			m := with(four, x.do)
			if !canBeRead(m) {
				continue
			}
			tried++
			fails(t, told(m), x.want, x.pos)
		}
	}
	if tried < 15 {
		t.Error("too few:", tried)
	}
	fails(t, sealed([]byte{7, 10, 20, 10, 1, 2, 10, 1, 1, 'A', 4, 9}), api.ErrName, 0)
	fails(t, sealed([]byte{7, 10, 20, 10, 1, 2, 10, 1, 0, 4, 9}), api.ErrName, 0)
	fails(t, sealed([]byte{7, 10, 20, 10, 1, 2, 10, 0}), api.ErrMany, -1)
	fails(t, sealed([]byte{7, 10, 20, 10, 0, 1, 1, 'a', 4, 9}), api.ErrShape, -1)
	fails(t, sealed([]byte{7, 10, 10, 10, 1, 2, 10, 1, 1, 'a', 4, 9}), api.ErrRange, -1)
	fails(t, sealed([]byte{7, 10, 20, 10, 1, 2, 10, 2, 1, 'a', 4, 9, 1, 'a', 4, 9}), api.ErrShape, -1)
}

// The sum is met first, then the numbers as they come, then what is behind, then what may not be.
func TestReadTellsTheFirstError(t *testing.T) {
	for _, clause := range faults() {
		for _, x := range clause {
			m := with(func(m *api.Manifest) { m.Objects = objects(4) }, x.do)
			if !canBeRead(m) {
				continue
			}
			l := fields(m)
			b := laid(l)
			behind := append(bytes.Clone(b), 0)
			fails(t, append(bytes.Clone(b), 1, 2, 3, 4), api.ErrSum, -1)
			fails(t, sealed(behind), api.ErrShape, len(b))
			fails(t, sealed(b[:len(b)-1]), api.ErrEnd, -1)
			last := len(b) - len(l[len(l)-1].b)
			fails(t, sealed(append(bytes.Clone(b[:last]), 0x80, 0, 9)), api.ErrShape, last)
		}
	}
	fails(t, []byte{1, 2, 3}, api.ErrEnd, -1)
	fails(t, sealed([]byte{7, 10, 20, 10, 0x81, 2, 0x80, 0}), api.ErrRange, 4)
	fails(t, sealed([]byte{7, 10, 20, 10, 1, 2, 10, 9, 65}), api.ErrRange, 7)
}
