package rec_test

import (
	"bytes"
	"encoding/binary"
	"hash/crc32"
	"math/rand"
	"strings"
	"testing"

	"cordwood/api"
	"cordwood/rec"
)

// sealed has the head of what is behind, ahead of it.
func sealed(behind []byte) []byte {
	b := binary.LittleEndian.AppendUint32(nil, uint32(len(behind)))
	b = binary.LittleEndian.AppendUint32(b, crc32.Checksum(behind, crc32.MakeTable(crc32.Castagnoli)))
	return append(b, behind...)
}

// numbers is what a batch begins with behind its head.
func numbers(base uint64, epoch uint32, many uint16, time int64) []byte {
	b := binary.LittleEndian.AppendUint64(nil, base)
	b = binary.LittleEndian.AppendUint32(b, epoch)
	b = binary.LittleEndian.AppendUint16(b, many)
	return binary.AppendVarint(b, time)
}

// one is a record behind b.
func one(b []byte, step int64, key, value string) []byte {
	b = binary.AppendVarint(b, step)
	b = append(binary.AppendUvarint(b, uint64(len(key))), key...)
	return append(binary.AppendUvarint(b, uint64(len(value))), value...)
}

// plain is the bytes of a batch as the chapter has them.
func plain(b api.Batch) []byte {
	behind := numbers(uint64(b.Base), uint32(b.Epoch), uint16(len(b.Records)), b.Records[0].Time)
	for i, r := range b.Records {
		behind = one(behind, r.Time-b.Records[max(i-1, 0)].Time, string(r.Key), string(r.Value))
	}
	return sealed(behind)
}

// isNone tells whether a batch is the zero one.
func isNone(b api.Batch) bool {
	return b.Base == 0 && b.Epoch == 0 && len(b.Records) == 0
}

// refuses reads b, and holds what is answered against nothing and want.
func refuses(t *testing.T, what string, b []byte, want error) {
	t.Helper()
	was := bytes.Clone(b)
	if got, n, err := rec.Read(b); !isNone(got) || n != 0 || err != want {
		t.Errorf("%s: %d records, %d bytes, %v, not %v", what, len(got.Records), n, err, want)
	}
	if !bytes.Equal(b, was) {
		t.Errorf("%s: changed", what)
	}
}

// P3.1

func TestBytesOfOneRecord(t *testing.T) {
	b, err := rec.Bytes(with(api.Record{}))
	behind := make([]byte, 18)
	behind[12] = 1
	if err != nil || len(b) != 26 || !bytes.Equal(b, sealed(behind)) {
		t.Errorf("%v, %v", b, err)
	}
}

func TestBytesByHand(t *testing.T) {
	b, err := rec.Bytes(api.Batch{Base: 0x0102030405, Epoch: 0x06070809, Records: []api.Record{record(-3, "k", ""), record(61, "", "vw"), record(-4, "", "")}})
	want := []byte{
		5, 4, 3, 2, 1, 0, 0, 0, // Base
		9, 8, 7, 6, // Epoch
		3, 0, // records
		5,            // -3
		0, 1, 'k', 0, // no step
		128, 1, 0, 2, 'v', 'w', // 64 on
		129, 1, 0, 0, // 65 back
	}
	if err != nil || !bytes.Equal(b, sealed(want)) {
		t.Errorf("%v, %v", b, err)
	}
}

func TestBytes(t *testing.T) {
	for i, x := range rights() {
		was := rec.Clone(x)
		b, err := rec.Bytes(x)
		if err != nil || !bytes.Equal(b, plain(x)) {
			t.Errorf("right %d: %v", i, err)
		}
		if rec.Size(x) != len(b) {
			t.Errorf("right %d: Size %d of %d", i, rec.Size(x), len(b))
		}
		if !rec.Same(x, was) {
			t.Errorf("right %d: changed", i)
		}
	}
	for i, x := range wrongs() {
		if b, err := rec.Bytes(x.b); len(b) > 0 || err != x.want {
			t.Errorf("wrong %d: %v, %v, not %v", i, b, err, x.want)
		}
		if n := rec.Size(x.b); n != 0 {
			t.Errorf("wrong %d: Size %d", i, n)
		}
	}
}

func TestBytesIsNewMemory(t *testing.T) {
	x := batch(7, 3, 5)
	first, _ := rec.Bytes(x)
	second, _ := rec.Bytes(x)
	for i := range first[:cap(first)] {
		first[:cap(first)][i] = '!'
	}
	if !bytes.Equal(second, plain(x)) || !rec.Same(x, batch(7, 3, 5)) {
		t.Error("it is shared")
	}
}

// P3.2

func TestReadOfTooFew(t *testing.T) {
	for n := range 8 {
		refuses(t, "zeros", make([]byte, n), api.ErrEnd)
		refuses(t, "more said to be behind than may be", bytes.Repeat([]byte{255}, n), api.ErrEnd)
	}
	refuses(t, "nil", nil, api.ErrEnd)
	for i, x := range rights() {
		b := plain(x)
		for k := range b {
			// Nothing behind the length is read, though it is there.
			if got, n, err := rec.Read(b[:k]); !isNone(got) || n != 0 || err != api.ErrEnd {
				t.Fatalf("%d cut at %d: %d, %v", i, k, n, err)
			}
		}
	}
}

func TestReadOfMany(t *testing.T) {
	head := func(n uint32, behind int) []byte {
		b := binary.LittleEndian.AppendUint32(nil, n)
		return append(b, make([]byte, 4+behind)...)
	}
	refuses(t, "MaxBatch, not there", head(api.MaxBatch, 0), api.ErrEnd)
	refuses(t, "MaxBatch, one too few there", head(api.MaxBatch, api.MaxBatch-1), api.ErrEnd)
	refuses(t, "MaxBatch there, another sum", head(api.MaxBatch, api.MaxBatch), api.ErrSum)
	refuses(t, "MaxBatch there, no batch", sealed(make([]byte, api.MaxBatch)), api.ErrShape)
	refuses(t, "one more, not there", head(api.MaxBatch+1, 0), api.ErrMany)
	refuses(t, "one more, there", head(api.MaxBatch+1, api.MaxBatch+1), api.ErrMany)
	refuses(t, "one more, there, with its sum", sealed(make([]byte, api.MaxBatch+1)), api.ErrMany)
	refuses(t, "half of all", head(1<<31, 4), api.ErrMany)
	refuses(t, "most of all", head(1<<32-1, 4), api.ErrMany)
}

func TestReadOfAnotherSum(t *testing.T) {
	for i, x := range rights() {
		b := plain(x)
		for k := 4; k < len(b); k += 1 + len(b)/500 {
			for _, bit := range []byte{1, 16, 128} {
				b[k] ^= bit
				if got, n, err := rec.Read(b); !isNone(got) || n != 0 || err != api.ErrSum {
					t.Fatalf("%d, bit %d of byte %d turned: %d, %v", i, bit, k, n, err)
				}
				b[k] ^= bit
			}
		}
	}
	b := plain(batch(7, 3, 2))
	b[0]--
	refuses(t, "one fewer said", b, api.ErrSum)
	b[0] += 2
	refuses(t, "one more said, there", append(b, 0), api.ErrSum)
	refuses(t, "nothing behind, another sum", []byte{0, 0, 0, 0, 1, 0, 0, 0}, api.ErrSum)
}

// shapes is what may be behind a head, and is not as Bytes has it.
func shapes() map[string][]byte {
	good := numbers(7, 3, 1, 5)
	two := one(numbers(7, 3, 2, 5), 0, "", "")
	later := func(step int64) []byte { return one(one(numbers(7, 3, 2, 5), 0, "", ""), step, "", "") }
	past := func(first, step int64) []byte { return one(one(numbers(7, 3, 2, first), 0, "", ""), step, "", "") }
	return map[string][]byte{
		"nothing":               {},
		"half a Base":           make([]byte, 4),
		"no epoch":              make([]byte, 8),
		"no count":              make([]byte, 12),
		"no time":               make([]byte, 14),
		"no record":             numbers(7, 3, 0, 5),
		"no record, but one":    one(numbers(7, 3, 0, 5), 0, "", ""),
		"a record missing":      two,
		"too many records":      manyRecords(api.MaxRecords + 1),
		"far too many records":  manyRecords(10000),
		"most said":             one(numbers(7, 3, 1<<16-1, 5), 0, "", ""),
		"a byte behind":         append(one(good, 0, "", ""), 0),
		"a record behind":       one(one(good, 0, "", ""), 0, "", ""),
		"Base past the end":     one(numbers(api.MaxOffset+1, 3, 1, 5), 0, "", ""),
		"Base at the end":       one(numbers(api.MaxOffset, 3, 1, 5), 0, "", ""),
		"last past the end":     one(one(numbers(api.MaxOffset-1, 3, 2, 5), 0, "", ""), 0, "", ""),
		"Base below 0":          one(numbers(1<<64-1, 3, 1, 5), 0, "", ""),
		"least Base":            one(numbers(1<<63, 3, 1, 5), 0, "", ""),
		"epoch past the end":    one(numbers(7, api.MaxEpoch+1, 1, 5), 0, "", ""),
		"epoch below 0":         one(numbers(7, 1<<32-1, 1, 5), 0, "", ""),
		"time past the end":     one(numbers(7, 3, 1, api.MaxTime+1), 0, "", ""),
		"time below":            one(numbers(7, 3, 1, -api.MaxTime-1), 0, "", ""),
		"greatest time":         one(numbers(7, 3, 1, 1<<63-1), 0, "", ""),
		"a first step":          one(good, 1, "", ""),
		"a first step back":     one(good, -1, "", ""),
		"a step past the end":   past(0, api.MaxTime+1),
		"a step below":          past(0, -api.MaxTime-1),
		"a step too far":        past(-api.MaxTime, 2*api.MaxTime+1),
		"a step too far back":   past(api.MaxTime, -2*api.MaxTime-1),
		"greatest step":         later(1<<63 - 1),
		"least step":            later(-1 << 63),
		"a step round and back": past(-api.MaxTime, -1<<63),
		"a long key":            one(good, 0, strings.Repeat("k", api.MaxKey+1), ""),
		"a long value":          one(good, 0, "", strings.Repeat("v", api.MaxValue+1)),
		"a key cut":             append(bytes.Clone(good), 0, 2, 'k'),
		"a value cut":           append(bytes.Clone(good), 0, 0, 2, 'v'),
		"no value":              append(bytes.Clone(good), 0, 0),
		"a key of most":         append(bytes.Clone(good), 0, 255, 255, 255, 255, 255, 255, 255, 255, 255, 1, 0),
		"first time long":       append(numbers(7, 3, 1, 5)[:14], 138, 0, 0, 0, 0),
		"first step long":       append(bytes.Clone(good), 128, 0, 0, 0),
		"a step long":           append(bytes.Clone(two), 130, 0, 0, 0),
		"key's length long":     append(bytes.Clone(good), 0, 129, 0, 'k', 0),
		"value's length long":   append(bytes.Clone(good), 0, 0, 128, 0),
		"a number of ten":       append(bytes.Clone(good), 128, 128, 128, 128, 128, 128, 128, 128, 128, 128, 0, 0),
	}
}

func manyRecords(n int) []byte {
	b := numbers(7, 3, uint16(n), 5)
	for range n {
		b = one(b, 0, "", "")
	}
	return b
}

func TestReadOfAnotherShape(t *testing.T) {
	for what, behind := range shapes() {
		refuses(t, what, sealed(behind), api.ErrShape)
		refuses(t, what+", with more behind", append(sealed(behind), plain(batch(7, 3, 2))...), api.ErrShape)
	}
}

func TestReadIsNewMemory(t *testing.T) {
	x := batch(7, 3, 5)
	b := plain(x)
	first, _, _ := rec.Read(b)
	second, _, _ := rec.Read(b)
	spoil(first)
	if !bytes.Equal(b, plain(x)) || !rec.Same(second, x) {
		t.Error("what is read is shared")
	}
	clear(b)
	if !rec.Same(second, x) {
		t.Error("the bytes are kept")
	}
	for i := range second.Records {
		spoilRecord(&second.Records[i])
		if rest := (api.Batch{Records: second.Records[i+1:]}); !rec.Same(rest, api.Batch{Records: x.Records[i+1:]}) {
			t.Fatalf("record %d shares memory with another one", i)
		}
	}
}

// goesThrough reads all of b, and holds it against want, its bytes and an error.
func goesThrough(t *testing.T, what string, b []byte, want []api.Batch, fails error) {
	t.Helper()
	was := bytes.Clone(b)
	size := 0
	for _, x := range want {
		size += len(plain(x))
	}
	l, n, err := rec.All(b)
	if len(l) != len(want) || n != size || err != fails {
		t.Errorf("%s: %d batches, %d bytes, %v, not %d, %d, %v", what, len(l), n, err, len(want), size, fails)
		return
	}
	for i := range l {
		if !rec.Same(l[i], want[i]) {
			t.Errorf("%s: batch %d is another one", what, i)
		}
	}
	spoil(api.Batch{Records: allRecords(l)})
	if !bytes.Equal(b, was) {
		t.Errorf("%s: changed", what)
	}
}

func allRecords(l []api.Batch) []api.Record {
	var records []api.Record
	for _, b := range l {
		records = append(records, b.Records...)
	}
	return records
}

func join(l ...api.Batch) []byte {
	var b []byte
	for _, x := range l {
		b = append(b, plain(x)...)
	}
	return b
}

func TestAll(t *testing.T) {
	goesThrough(t, "nil", nil, nil, nil)
	goesThrough(t, "nothing", []byte{}, nil, nil)
	goesThrough(t, "one", join(batch(7, 3, 2)), []api.Batch{batch(7, 3, 2)}, nil)
	goesThrough(t, "all that are right", join(rights()...), rights(), nil)
	alike := []api.Batch{batch(9, 1, 2), batch(3, 0, 2), batch(9, 1, 2)}
	goesThrough(t, "in no order, one twice", join(alike...), alike, nil)
	goesThrough(t, "a byte", []byte{9}, nil, api.ErrEnd)
}

func TestAllWithOneCut(t *testing.T) {
	l := []api.Batch{batch(3, 1, 2), batch(5, 1, 1), batch(6, 2, 3)}
	b := join(l...)
	ends := map[int]int{0: 0, len(join(l[0])): 1, len(join(l[:2]...)): 2, len(b): 3}
	whole := 0
	for k := range len(b) + 1 {
		n, between := ends[k]
		if between {
			whole = n
			goesThrough(t, "cut between", b[:k], l[:whole], nil)
			continue
		}
		goesThrough(t, "cut within", b[:k], l[:whole], api.ErrEnd)
	}
}

func TestAllWithOneSpoilt(t *testing.T) {
	ahead := []api.Batch{batch(3, 1, 2), batch(5, 1, 1)}
	behind := join(batch(6, 2, 3))
	among := func(spoilt []byte) []byte { return append(append(join(ahead...), spoilt...), behind...) }
	sum := plain(batch(6, 2, 3))
	sum[7] ^= 1
	goesThrough(t, "another sum", among(sum), ahead, api.ErrSum)
	goesThrough(t, "another shape", among(sealed(numbers(6, 2, 0, 5))), ahead, api.ErrShape)
	goesThrough(t, "nothing behind", among(sealed(nil)), ahead, api.ErrShape)
	goesThrough(t, "too much said", among([]byte{1, 0, 1, 0, 0, 0, 0, 0}), ahead, api.ErrMany)
	goesThrough(t, "more said than there", among([]byte{0, 0, 1, 0, 0, 0, 0, 0}), ahead, api.ErrEnd)
	goesThrough(t, "the first one", append(sum, behind...), nil, api.ErrSum)
}

func TestAllIsNewMemory(t *testing.T) {
	l := []api.Batch{batch(3, 1, 2), batch(5, 1, 2)}
	b := join(l...)
	got, _, _ := rec.All(b)
	clear(b)
	if !rec.Same(got[0], l[0]) || !rec.Same(got[1], l[1]) {
		t.Error("the bytes are kept")
	}
	spoil(got[0])
	if !rec.Same(got[1], l[1]) {
		t.Error("batches share memory")
	}
}

// P3.3

func TestReadOfBytes(t *testing.T) {
	for i, x := range rights() {
		b, _ := rec.Bytes(x)
		for _, behind := range [][]byte{nil, {0}, {255, 255, 255, 255, 255, 255, 255, 255}, b, make([]byte, api.MaxBatch)} {
			got, n, err := rec.Read(append(bytes.Clone(b), behind...))
			if err != nil || n != len(b) || !rec.Same(got, x) {
				t.Errorf("right %d with %d behind: %d of %d bytes, %v", i, len(behind), n, len(b), err)
			}
		}
	}
}

// TestReadIsJustBytes turns over bytes behind the head, and lays the sum anew: what is still read must have just these bytes.
func TestReadIsJustBytes(t *testing.T) {
	random := rand.New(rand.NewSource(1))
	read := 0
	for range 60000 {
		behind := plain(batch(int64(random.Intn(300)), random.Intn(3), 1+random.Intn(4)))[8:]
		for range 1 + random.Intn(2) {
			behind[random.Intn(len(behind))] = [...]byte{0, 1, 2, 127, 128, 129, 255, byte(random.Intn(256))}[random.Intn(8)]
		}
		b := sealed(behind)
		got, n, err := rec.Read(b)
		if err != nil {
			if err != api.ErrShape {
				t.Fatalf("%v: %v", b, err)
			}
			continue
		}
		read++
		if again, err := rec.Bytes(got); n != len(b) || err != nil || !bytes.Equal(again, b) {
			t.Fatalf("%v is read as the batch of %v, %d, %v", b, again, n, err)
		}
	}
	if read < 1000 {
		t.Errorf("only %d read", read)
	}
}
