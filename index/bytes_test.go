package index_test

import (
	"bytes"
	"encoding/binary"
	"errors"
	"hash/crc32"
	"math"
	"math/rand"
	"slices"
	"testing"

	"cordwood/api"
	"cordwood/index"
)

// num is a number as it is laid; one of Time has its sign in the lowest bit.
type num uint64

func signed(n int64) num {
	if n < 0 {
		return num(-2*n - 1)
	}
	return num(2 * n)
}

func laid(l ...num) []byte {
	var b []byte
	for _, n := range l {
		b = binary.AppendUvarint(b, uint64(n))
	}
	return b
}

func sealed(b []byte) []byte {
	return binary.LittleEndian.AppendUint32(bytes.Clone(b), crc32.Checksum(b, crc32.MakeTable(crc32.Castagnoli)))
}

// told is an index as its bytes are to be.
func told(every int, marks ...index.Mark) []byte {
	b := laid(num(every), num(len(marks)))
	var ahead index.Mark
	for _, m := range marks {
		b = append(b, laid(num(m.Offset-ahead.Offset), signed(m.Time-ahead.Time), num(m.Pos-ahead.Pos))...)
		ahead = m
	}
	return sealed(b)
}

// isError tells whether err is want, bare if pos is below 0, else around pos.
func isError(err, want error, pos int) bool {
	if pos < 0 {
		return err == want
	}
	at, ok := err.(*api.At)
	return ok && at.Pos == pos && at.Err == want
}

func readFails(t *testing.T, b []byte, want error, pos int) {
	t.Helper()
	if x, err := index.Read(b); x != nil || !isError(err, want, pos) {
		t.Errorf("Read(%v): %v, not %v at %d", b, err, want, pos)
	}
}

func read(t *testing.T, b []byte) *index.Index {
	t.Helper()
	x, err := index.Read(b)
	if err != nil {
		t.Fatalf("Read(%v): %v", b, err)
	}
	return x
}

// P6.3

func TestBytesAreAsTheDocumentHasThem(t *testing.T) {
	for _, x := range []struct {
		every int
		adds  []add
		want  []byte
	}{
		{1, nil, []byte{1, 0}},
		{127, nil, []byte{127, 0}},
		{128, nil, []byte{128, 1, 0}},
		{maxEvery, nil, []byte{128, 128, 64, 0}},
		{100, []add{{0, 0, 0, 1}}, []byte{100, 1, 0, 0, 0}},
		{100, []add{{5, 50, 3, 60}}, []byte{100, 1, 5, 100, 3}},
		{100, []add{{5, -50, 3, 60}}, []byte{100, 1, 5, 99, 3}},
		{100, []add{{5, 50, 3, 60}, {300, -2, 103, 60}}, []byte{100, 2, 5, 100, 3, 167, 2, 0, 100}},
		{100, []add{{5, -1, 3, 60}, {6, 0, 4, 60}, {7, 1, 203, 60}}, []byte{100, 2, 5, 1, 3, 2, 4, 200, 1}},
	} {
		if got := made(t, x.every, x.adds...).Bytes(); !bytes.Equal(got, sealed(x.want)) {
			t.Errorf("%d, %v: %v, not %v", x.every, x.adds, got, sealed(x.want))
		}
	}
	x := three(t)
	x.Cut(200)
	if got, want := x.Bytes(), told(100, x.Marks()...); !bytes.Equal(got, want) {
		t.Errorf("behind a cut: %v, not %v", got, want)
	}
}

// edges are adds that have marks at all edges, if every is not above 9.
func edges() []add {
	return []add{
		{0, -api.MaxTime, 0, 1},
		{1, -api.MaxTime, 9, 1},
		{128, -api.MaxTime + 1, 137, 1},
		{1 << 35, -1, 1 << 20, 1},
		{1<<35 + 1, 0, 1<<20 + 9, 1},
		{api.MaxOffset - 1, 1, maxPos - 9, 1},
		{api.MaxOffset, api.MaxTime, maxPos, 1},
	}
}

func TestBytesReadBack(t *testing.T) {
	many := made(t, 9, edges()...)
	if n := len(many.Marks()); n != len(edges()) {
		t.Fatal(n)
	}
	widest := made(t, maxEvery, add{0, -api.MaxTime, 0, 1}, add{api.MaxOffset, api.MaxTime, maxPos, 1})
	for i, x := range []*index.Index{
		made(t, 1), made(t, 300), made(t, maxEvery),
		made(t, 1, add{0, 0, 0, 1}), made(t, 1, add{api.MaxOffset, -api.MaxTime, maxPos, 1}), made(t, 1, add{0, api.MaxTime, 0, 1}),
		three(t), many, widest,
	} {
		b := x.Bytes()
		y := read(t, b)
		if !slices.Equal(x.Marks(), y.Marks()) || !bytes.Equal(y.Bytes(), b) {
			t.Errorf("%d: %v, not %v", i, y.Marks(), x.Marks())
		}
	}
	has(t, read(t, widest.Bytes()), index.Mark{Time: -api.MaxTime}, index.Mark{Offset: api.MaxOffset, Time: api.MaxTime, Pos: maxPos})
}

func TestReadGoesOnByTheLastMark(t *testing.T) {
	y := read(t, three(t).Bytes()) // its last mark is 30@200 of time 7; of 35@250 of time 9 there is nothing
	refuses(t, y, add{30, 1, 900, 1})
	refuses(t, y, add{29, 1, 900, 1})
	refuses(t, y, add{31, 1, 200, 1})
	refuses(t, y, add{31, 1, 199, 1})
	takes(t, y, add{31, 1, 201, 1})
	takes(t, y, add{32, 1, 299, 1})
	takes(t, y, add{33, 6, 300, 1})
	if l := y.Marks(); len(l) != 4 || l[3] != (index.Mark{Offset: 33, Time: 7, Pos: 300}) {
		t.Error(l)
	}
	y = read(t, y.Bytes())
	y.Cut(300)
	takes(t, y, add{31, 8, 300, 1})
	if l := y.Marks(); len(l) != 4 || l[3] != (index.Mark{Offset: 31, Time: 8, Pos: 300}) {
		t.Error(l)
	}
	y.Cut(200)
	refuses(t, y, add{20, 1, 101, 1})
	refuses(t, y, add{21, 1, 100, 1})
	takes(t, y, add{21, 1, 101, 1})
	if pos := y.Find(30); pos != 100 {
		t.Error(pos)
	}
}

func TestReadOfNoMarkGoesOn(t *testing.T) {
	y := read(t, made(t, 10).Bytes())
	has(t, y)
	takes(t, y, add{0, -5, 4, 1})
	takes(t, y, add{1, -6, 13, 1})
	takes(t, y, add{2, -7, 14, 1})
	has(t, y, index.Mark{Time: -5, Pos: 4}, index.Mark{Offset: 2, Time: -5, Pos: 14})
}

func TestReadOfMarksThatLieNear(t *testing.T) {
	near := []index.Mark{{Offset: 4, Time: 9, Pos: 3}, {Offset: 5, Time: 9, Pos: 4}, {Offset: 6, Time: 10, Pos: 5}}
	y := read(t, told(100, near...)) // no New and Add make these, but the document refuses just what does not rise
	has(t, y, near...)
	takes(t, y, add{7, 1, 104, 1})
	takes(t, y, add{8, 1, 105, 1})
	has(t, y, append(near, index.Mark{Offset: 8, Time: 10, Pos: 105})...)
}

func TestReadOfTimesThatFall(t *testing.T) {
	fall := []index.Mark{{Offset: 1, Time: 50, Pos: 0}, {Offset: 2, Time: -70, Pos: 10}, {Offset: 3, Time: 90, Pos: 20}, {Offset: 4, Time: 60, Pos: 30}}
	b := told(10, fall...)
	y := read(t, b)
	has(t, y, fall...)
	if !bytes.Equal(y.Bytes(), b) {
		t.Error(y.Bytes())
	}
	for time, want := range map[int64]int64{-99: 1, -70: 1, 50: 1, 51: 3, 60: 3, 90: 3} {
		if got, is := y.When(time); got != want || !is {
			t.Errorf("When(%d) = %d, %v, not %d", time, got, is, want)
		}
	}
	if got, is := y.When(91); got != 0 || is {
		t.Error(got, is)
	}
	c := y.Clone()
	takes(t, c, add{5, 61, 40, 1})
	has(t, c, append(slices.Clone(fall), index.Mark{Offset: 5, Time: 90, Pos: 40})...)
	y.Cut(40) // nothing is cut, but the greatest time is now that of the last mark
	takes(t, y, add{5, 61, 40, 1})
	has(t, y, append(slices.Clone(fall), index.Mark{Offset: 5, Time: 61, Pos: 40})...)
	y.Cut(20)
	takes(t, y, add{3, -80, 20, 1})
	has(t, y, fall[0], fall[1], index.Mark{Offset: 3, Time: -70, Pos: 20})
}

func TestReadTooShort(t *testing.T) {
	for _, b := range [][]byte{nil, {}, {1}, {1, 2, 3}, make([]byte, 4)[:3]} {
		readFails(t, b, api.ErrEnd, -1)
	}
	whole := three(t).Bytes()
	for n := range whole {
		want := api.ErrSum
		if n < 4 {
			want = api.ErrEnd
		}
		readFails(t, whole[:n], want, -1)
	}
	text := whole[:len(whole)-4]
	for n := range text {
		readFails(t, sealed(text[:n]), api.ErrEnd, -1)
	}
}

func TestReadOfAWrongSum(t *testing.T) {
	whole := three(t).Bytes()
	for bit := range 8 * len(whole) {
		b := bytes.Clone(whole)
		b[bit/8] ^= 1 << (bit % 8)
		readFails(t, b, api.ErrSum, -1)
	}
	readFails(t, append(bytes.Clone(whole), 0), api.ErrSum, -1)
}

// wrong is bytes that are no index, the error that they have, and its place.
type wrong struct {
	b    []byte
	want error
	pos  int
}

// outOfRange are numbers that are just beyond what may stand at their place, and far beyond.
func outOfRange() []wrong {
	var l []wrong
	for _, n := range []num{maxEvery + 1, 1 << 32, 1<<32 + 5, math.MaxUint64} {
		l = append(l, wrong{laid(n, 0), api.ErrRange, 0})
		l = append(l, wrong{laid(n), api.ErrRange, 0})
	}
	for _, n := range []num{api.MaxItems + 1, 1 << 32, 1 << 63, math.MaxUint64} {
		l = append(l, wrong{laid(5, n, 1, 2, 3), api.ErrRange, 1})
		l = append(l, wrong{laid(300, n, 1, 2, 3), api.ErrRange, 2})
	}
	for _, n := range []num{api.MaxOffset + 1, 1 << 63, math.MaxUint64} {
		l = append(l, wrong{laid(5, 1, n, 2, 3), api.ErrRange, 2})
		l = append(l, wrong{laid(5, 2, 1, 2, 3, n, 0, 9), api.ErrRange, 5})
	}
	for _, n := range []int64{1<<42 + 1, -1<<42 - 1, math.MaxInt64, -math.MaxInt64} {
		l = append(l, wrong{laid(5, 1, 1, signed(n), 3), api.ErrRange, 3})
		l = append(l, wrong{laid(5, 2, 1, 2, 3, 1, signed(n), 9), api.ErrRange, 6})
	}
	for _, n := range []num{maxPos + 1, 1 << 32, 1<<32 + 9, 1 << 63, math.MaxUint64} {
		l = append(l, wrong{laid(5, 1, 1, 2, n), api.ErrRange, 4})
		l = append(l, wrong{laid(5, 2, 1, 2, 3, 1, 0, n), api.ErrRange, 7})
	}
	return l
}

// notRight are marks of which each number may be read, but that are no marks of an index.
func notRight() [][]byte {
	l := [][]byte{
		laid(5, 2, 1, 2, 3, 0, 0, 1),                         // an offset again
		laid(5, 2, 1, 2, 3, 1, 0, 0),                         // a pos again
		laid(5, 2, 1, 2, 3, 0, 0, 0),                         // both
		laid(5, 3, 1, 2, 3, 1, 0, 9, 0, 0, 9),                // the third one
		laid(5, 3, 1, 2, 3, 1, 0, 0, 1, 0, 9),                // just the second one
		laid(5, 2, api.MaxOffset, 2, 3, 1, 0, 9),             // an offset of MaxOffset and one
		laid(5, 2, api.MaxOffset, 2, 3, api.MaxOffset, 0, 9), // of twice that
		laid(5, 2, 1, 2, maxPos, 1, 0, 1),                    // a pos of 2^30 and one
		laid(5, 2, 1, 2, maxPos, 1, 0, maxPos),               // of twice that
		laid(5, 1, 1, signed(api.MaxTime+1), 3),              // a time
		laid(5, 1, 1, signed(-api.MaxTime-1), 3),
		laid(5, 1, 1, signed(1<<42), 3), // as far as it may be read
		laid(5, 1, 1, signed(-1<<42), 3),
		laid(5, 2, 1, signed(api.MaxTime), 3, 1, signed(1), 9),
		laid(5, 2, 1, signed(-api.MaxTime), 3, 1, signed(-1), 9),
		laid(5, 2, 1, signed(api.MaxTime), 3, 1, signed(1<<42), 9),
		laid(5, 2, 1, signed(api.MaxTime+1), 3, 1, signed(-1), 9), // one that the next one is right behind
		laid(5, 3, 1, 0, 3, 1, signed(-1<<42), 9, 1, signed(1<<42), 9),
		laid(5, 3, api.MaxOffset, 0, 3, 1, 0, 9, 0, 0, 9), // two wrong ones
		laid(5, 3, 1, 2, 3, 1, signed(1<<42), maxPos, 1, signed(1<<42), maxPos),
		laid(5, 4, 1, 2, 3, 1, 0, maxPos, 1, signed(-1<<42), maxPos, 1, 0, maxPos),
		laid(maxEvery, 2, api.MaxOffset, signed(-api.MaxTime), maxPos, 1, 0, 1),
		laid(maxEvery, 2, api.MaxOffset, signed(api.MaxTime), maxPos, 0, signed(1), 0),
	}
	same := laid(1, api.MaxItems)
	for range api.MaxItems {
		same = append(same, laid(api.MaxOffset, signed(1<<42), maxPos)...)
	}
	return append(l, same)
}

func TestReadOfANumberBeyondItsBound(t *testing.T) {
	for _, w := range outOfRange() {
		readFails(t, sealed(w.b), w.want, w.pos)
	}
}

func TestReadOfANumberAtItsBound(t *testing.T) {
	for _, b := range [][]byte{
		laid(1, 0),
		laid(maxEvery, 0),
		laid(1, 1, 0, 0, 0),
		laid(5, 1, api.MaxOffset, 2, 3),
		laid(5, 1, 1, signed(api.MaxTime), 3),
		laid(5, 1, 1, signed(-api.MaxTime), 3),
		laid(5, 1, 1, 2, maxPos),
		laid(5, 2, 0, signed(-api.MaxTime), 0, api.MaxOffset, signed(2*api.MaxTime), maxPos),
		laid(5, 2, 0, signed(api.MaxTime), 0, 1, signed(-2*api.MaxTime), 1),
	} {
		if x := read(t, sealed(b)); !bytes.Equal(x.Bytes(), sealed(b)) {
			t.Errorf("%v: %v", b, x.Bytes())
		}
	}
}

func TestReadOfNumbersThatAreNone(t *testing.T) {
	ten := bytes.Repeat([]byte{0x80}, 10)
	for _, w := range []wrong{
		{[]byte{0x85, 0}, api.ErrShape, 0},
		{[]byte{5, 0x80, 0}, api.ErrShape, 1},
		{[]byte{5, 1, 0x81, 0, 2, 3}, api.ErrShape, 2},
		{[]byte{5, 1, 1, 0x82, 0, 3}, api.ErrShape, 3},
		{[]byte{5, 1, 1, 2, 0x83, 0}, api.ErrShape, 4},
		{[]byte{0x85}, api.ErrEnd, -1},
		{[]byte{5, 1, 1, 2, 0x83}, api.ErrEnd, -1},
		{append([]byte{5, 1}, ten...), api.ErrShape, 2},
	} {
		readFails(t, sealed(w.b), w.want, w.pos)
	}
}

func TestReadOfAByteMoreBehind(t *testing.T) {
	for _, b := range [][]byte{laid(1, 0), laid(300, 0), laid(5, 1, 1, 2, 3), laid(300, 2, 300, 2, 3, 300, 0, 300)} {
		for _, behind := range [][]byte{{0}, {7}, {0x80}, {0xff}, {1, 2, 3}, b} {
			readFails(t, sealed(append(bytes.Clone(b), behind...)), api.ErrShape, len(b))
		}
	}
}

func TestReadOfWhatIsNotRight(t *testing.T) {
	for _, b := range notRight() {
		readFails(t, sealed(b), api.ErrShape, -1)
	}
}

func TestReadOfAnEveryOfNone(t *testing.T) {
	for _, b := range [][]byte{laid(0, 0), laid(0, 1, 1, 2, 3), laid(0, 2, 1, 2, 3, 1, 0, 9)} {
		readFails(t, sealed(b), api.ErrRange, -1)
	}
}

// What is met first is told: the sum, then numbers as they come, then what is behind, then the marks, then every.
func TestReadTellsTheFirstError(t *testing.T) {
	readFails(t, append(laid(0, api.MaxItems+1), 1, 2, 3, 4), api.ErrSum, -1)
	for _, b := range notRight()[:6] {
		zero := append([]byte{0}, b[1:]...)
		readFails(t, sealed(zero), api.ErrShape, -1)
		readFails(t, sealed(append(zero, 9)), api.ErrShape, len(zero))
		readFails(t, sealed(zero[:len(zero)-1]), api.ErrEnd, -1)
	}
	readFails(t, sealed(laid(0, 0, 9)), api.ErrShape, 2)
	readFails(t, sealed(laid(maxEvery+1, api.MaxItems+1)), api.ErrRange, 0)
	readFails(t, sealed(laid(0, 2, 1, 2, 3, 0, signed(1<<42+1), 9, 9)), api.ErrRange, 6)
	readFails(t, sealed(laid(0, 2, 1, 2, maxPos, 0, 0, maxPos+1, 9)), api.ErrRange, 11)
	readFails(t, sealed(laid(5, 3, 1, 2, 3, 0, 0, 0)), api.ErrEnd, -1)
}

func TestReadOfAsManyAsMayBe(t *testing.T) {
	x := made(t, 1)
	for i := range api.MaxItems {
		takes(t, x, add{int64(i), int64(-i), i, 1})
	}
	y := read(t, x.Bytes())
	if l := y.Marks(); !slices.Equal(l, x.Marks()) || len(l) != api.MaxItems {
		t.Error(len(l))
	}
	takes(t, x, add{api.MaxItems, 0, api.MaxItems, 1})
	if l := x.Marks(); len(l) != api.MaxItems+1 {
		t.Error(len(l))
	}
	b := x.Bytes()
	if !bytes.Equal(b, told(1, x.Marks()...)) {
		t.Error("more marks than Read takes are not as they are to be")
	}
	readFails(t, b, api.ErrRange, 1)
}

// plainRead is what Read comes to, from the library's numbers.
func plainRead(b []byte) ([]index.Mark, error, int) {
	at := 0
	next := func(most uint64) (uint64, error) {
		n, size := binary.Uvarint(b[at:])
		switch {
		case size == 0 && len(b)-at < binary.MaxVarintLen64:
			return 0, api.ErrEnd
		case size <= 0 || size > 1 && b[at+size-1] == 0:
			return 0, api.ErrShape
		case n > most:
			return 0, api.ErrRange
		}
		at += size
		return n, nil
	}
	bounds := []uint64{maxEvery, api.MaxItems}
	var nums []uint64
	for i := 0; i < len(bounds); i++ {
		n, err := next(bounds[i])
		if err == api.ErrEnd {
			return nil, err, -1
		} else if err != nil {
			return nil, err, at
		}
		if i == 1 {
			for range n {
				bounds = append(bounds, api.MaxOffset, 1<<43, maxPos)
			}
		}
		nums = append(nums, n)
	}
	if at < len(b) {
		return nil, api.ErrShape, at
	}
	var l []index.Mark
	var last index.Mark
	for i := 2; i < len(nums); i += 3 {
		time := int64(nums[i+1] / 2)
		if nums[i+1]%2 == 1 {
			time = -time - 1
		}
		m := index.Mark{Offset: last.Offset + int64(nums[i]), Time: last.Time + time, Pos: last.Pos + int(nums[i+2])}
		if i > 2 && (m.Offset == last.Offset || m.Pos == last.Pos) || m.Offset > 1<<40 || m.Time > 1<<40 || m.Time < -1<<40 || m.Pos > 1<<30 {
			return nil, api.ErrShape, -1
		}
		l = append(l, m)
		last = m
	}
	if nums[0] == 0 {
		return nil, api.ErrRange, -1
	}
	return l, nil, -1
}

func TestReadOfWhateverThereIs(t *testing.T) {
	r := rand.New(rand.NewSource(61))
	some := []num{0, 0, 1, 1, 2, 3, 5, 127, 128, 300, maxEvery, maxEvery + 1, api.MaxItems, api.MaxItems + 1, maxPos - 1, maxPos, maxPos + 1, api.MaxOffset - 1, api.MaxOffset, api.MaxOffset + 1, 1<<43 - 1, 1 << 43, 1<<43 + 1, math.MaxUint64}
	good := 0
	for range 300000 {
		many := r.Intn(4)
		b := laid(some[r.Intn(11)], num(many))
		for range 3 * many {
			b = append(b, laid(some[r.Intn(2+r.Intn(len(some)-1))])...)
		}
		switch r.Intn(10) {
		case 0:
			b = b[:r.Intn(len(b)+1)]
		case 1:
			b[r.Intn(len(b))] = byte(r.Intn(256))
		case 2:
			b = append(b, byte(r.Intn(256)))
		}
		want, wantErr, pos := plainRead(b)
		x, err := index.Read(sealed(b))
		if wantErr != nil {
			if x != nil || !isError(err, wantErr, pos) {
				t.Fatalf("%v: %v, not %v at %d", b, err, wantErr, pos)
			}
			continue
		}
		if err != nil || !slices.Equal(x.Marks(), want) || !bytes.Equal(x.Bytes(), sealed(b)) {
			t.Fatalf("%v: %v, %v", b, want, err)
		}
		good++
	}
	if good < 3000 {
		t.Error("too few that may be:", good)
	}
}

func TestErrorsAreTheSentinels(t *testing.T) {
	for _, w := range []wrong{{nil, api.ErrEnd, -1}, {sealed(laid(maxEvery+1, 0)), api.ErrRange, 0}, {sealed(laid(5, 0, 0)), api.ErrShape, 2}} {
		if _, err := index.Read(w.b); !errors.Is(err, w.want) {
			t.Error(err)
		}
	}
}

func TestBytesAreNewMemory(t *testing.T) {
	x := three(t)
	want := string(x.Bytes())
	first, second := x.Bytes(), x.Bytes()
	clear(first[:cap(first)])
	if string(second) != want || string(x.Bytes()) != want {
		t.Error("two answers share memory, or one with the index")
	}
	y := read(t, second)
	clear(second)
	if string(y.Bytes()) != want {
		t.Error("Read keeps what is handed in")
	}
}

func TestReadLeavesWhatIsHandedIn(t *testing.T) {
	whole := three(t).Bytes()
	for _, b := range [][]byte{whole, whole[:len(whole)-1], sealed(append(whole[:len(whole)-4:len(whole)-4], 1)), sealed(laid(5, 1, 1, 2))} {
		in := append(bytes.Clone(b), "spare bytes"...)[:len(b)]
		_, err := index.Read(in)
		_, wantErr := index.Read(b)
		if (err == nil) != (wantErr == nil) || err != nil && err.Error() != wantErr.Error() {
			t.Errorf("what lies behind counts: %v, not %v", err, wantErr)
		}
		if string(in[:len(b)+11]) != string(b)+"spare bytes" {
			t.Error("what was handed in is changed")
		}
	}
}
