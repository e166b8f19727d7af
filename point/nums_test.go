package point_test

import (
	"bytes"
	"math"
	"math/rand"
	"slices"
	"testing"

	"cordwood/api"
	"cordwood/point"
	"cordwood/vint"
)

// numbers are that many, of all sizes and both signs.
func numbers(many int) []int64 {
	l := make([]int64, many)
	for i := range l {
		l[i] = (math.MinInt64 >> (i % 64)) ^ int64(-(i % 3))
	}
	return l
}

// fails holds the error of ReadNums against the one that is to be: at a place, or bare, if that is below 0.
func fails(t *testing.T, what string, b []byte, pos int, want error) {
	t.Helper()
	l, err := point.ReadNums(b)
	if len(l) != 0 {
		t.Errorf("%s: %d numbers beside %v", what, len(l), err)
	}
	at, is := err.(*api.At)
	if pos < 0 && err != want || pos >= 0 && (!is || at.Pos != pos || at.Err != want) {
		t.Errorf("%s: %v, not %d: %v", what, err, pos, want)
	}
}

func join(l ...[]byte) []byte { return bytes.Join(l, nil) }

// P8.3

func TestNumsKnown(t *testing.T) {
	ones := bytes.Repeat([]byte{255}, 9)
	for _, x := range []struct {
		l    []int64
		want []byte
	}{
		{nil, []byte{0}},
		{[]int64{}, []byte{0}},
		{[]int64{-1}, []byte{1, 1}},
		{[]int64{0}, []byte{1, 0}},
		{[]int64{1}, []byte{1, 2}},
		{[]int64{63, -64, 64, -65}, []byte{4, 126, 127, 128, 1, 129, 1}},
		{[]int64{150, -150, 0}, []byte{3, 172, 2, 171, 2, 0}},
		{[]int64{math.MaxInt64}, join([]byte{1, 254}, ones[:8], []byte{1})},
		{[]int64{math.MinInt64}, join([]byte{1}, ones, []byte{1})},
		{make([]int64, 127), append([]byte{127}, make([]byte, 127)...)},
		{make([]int64, 128), append([]byte{128, 1}, make([]byte, 128)...)},
		{make([]int64, api.MaxItems), append([]byte{128, 32}, make([]byte, api.MaxItems)...)},
		{make([]int64, api.MaxItems+1), append([]byte{129, 32}, make([]byte, api.MaxItems+1)...)},
	} {
		if got := point.Nums(x.l...); !bytes.Equal(got, x.want) {
			t.Errorf("%v: %v, not %v", x.l, got, x.want)
		}
	}
	if got := point.Nums(); !bytes.Equal(got, []byte{0}) {
		t.Error(got)
	}
}

func TestNumsAsTheChapterSays(t *testing.T) {
	for _, many := range []int{1, 2, 100, api.MaxItems, api.MaxItems + 1, 2 * api.MaxItems} {
		l := numbers(many)
		want := vint.Put(nil, uint64(many))
		for _, n := range l {
			want = vint.PutInt(want, n)
		}
		if !bytes.Equal(point.Nums(l...), want) {
			t.Error(many)
		}
	}
}

func TestReadNumsIsWhatNumsHad(t *testing.T) {
	all := [][]int64{nil, {0}, {-1}, {math.MinInt64}, {math.MaxInt64}, {math.MaxInt64, math.MinInt64, 0, 5, -5}}
	for n := range 64 {
		all = append(all, []int64{1 << n, -1 << n, 1<<n - 1, -1<<n - 1})
	}
	for _, many := range []int{127, 128, 129, api.MaxItems - 1, api.MaxItems} {
		all = append(all, numbers(many))
	}
	r := rand.New(rand.NewSource(3))
	for range 200 {
		l := make([]int64, r.Intn(20))
		for i := range l {
			l[i] = int64(r.Uint64()) >> r.Intn(64)
		}
		all = append(all, l)
	}
	for _, l := range all {
		if got, err := point.ReadNums(point.Nums(l...)); err != nil || !slices.Equal(got, l) {
			t.Errorf("%v: %v, %v", l, got, err)
		}
	}
}

func TestReadNumsTooShort(t *testing.T) {
	fails(t, "nothing", nil, -1, api.ErrEnd)
	fails(t, "nothing", []byte{}, -1, api.ErrEnd)
	for _, l := range [][]int64{{0}, {-1, 300, math.MinInt64, 7}, numbers(200)} {
		b := point.Nums(l...)
		for n := range b {
			fails(t, "cut", b[:n], -1, api.ErrEnd)
		}
	}
	many := point.Nums(numbers(api.MaxItems)...)
	fails(t, "the last byte", many[:len(many)-1], -1, api.ErrEnd)
	fails(t, "no number", vint.Put(nil, api.MaxItems), -1, api.ErrEnd)
}

func TestReadNumsTooMany(t *testing.T) {
	fails(t, "one more", point.Nums(make([]int64, api.MaxItems+1)...), 0, api.ErrRange)
	for _, many := range []uint64{api.MaxItems + 1, 1 << 31, 1 << 32, 1 << 63, 1<<63 + 1, math.MaxUint64} {
		fails(t, "no number", vint.Put(nil, many), 0, api.ErrRange)
		fails(t, "a number", vint.PutInt(vint.Put(nil, many), 7), 0, api.ErrRange)
	}
}

func TestReadNumsNotInShape(t *testing.T) {
	ten := bytes.Repeat([]byte{128}, 10)
	for _, bad := range [][]byte{{128, 0}, {129, 0}, {255, 128, 0}, join(ten[:9], []byte{2}), join(ten, []byte{1}), join(ten[:9], []byte{0}), ten} {
		fails(t, "how many", bad, 0, api.ErrShape)
		fails(t, "how many", join(bad, []byte{0, 0}), 0, api.ErrShape)
		fails(t, "the first", join([]byte{2}, bad, []byte{0}), 1, api.ErrShape)
		fails(t, "the third", join([]byte{3, 0, 172, 2}, bad), 4, api.ErrShape)
		fails(t, "the third of four", join([]byte{4, 0, 172, 2}, bad), 4, api.ErrShape)
		many := join(vint.Put(nil, 130), make([]byte, 129), bad)
		fails(t, "the last of 130", many, 131, api.ErrShape)
		fails(t, "behind", join([]byte{1, 5}, bad), 2, api.ErrMany)
	}
}

func TestReadNumsBehind(t *testing.T) {
	for _, l := range [][]int64{nil, {0}, {-1, 300}, numbers(130), numbers(api.MaxItems)} {
		b := point.Nums(l...)
		for _, behind := range [][]byte{{0}, {1}, {128}, {255}, {0, 0}, bytes.Repeat([]byte{128}, 20)} {
			fails(t, "behind", join(b, behind), len(b), api.ErrMany)
		}
	}
}

// Whatever the bytes are: the numbers whose Nums they are, or none.
func TestReadNumsOfAnyBytes(t *testing.T) {
	r := rand.New(rand.NewSource(5))
	right := 0
	for range 20000 {
		b := make([]byte, r.Intn(8))
		r.Read(b)
		if len(b) > 0 && r.Intn(2) == 0 {
			b[0] %= 8
		}
		l, err := point.ReadNums(b)
		if err != nil && len(l) != 0 || err == nil && !bytes.Equal(point.Nums(l...), b) {
			t.Fatal(b, l, err)
		}
		if err == nil {
			right++
		}
	}
	if right == 0 {
		t.Error("none was right")
	}
}

func TestNumsLeavesWhatIsHandedIn(t *testing.T) {
	l := []int64{1, -2, 3, 77, 78}[:3]
	first, second := point.Nums(l...), point.Nums(l...)
	if !slices.Equal(l[:5], []int64{1, -2, 3, 77, 78}) {
		t.Error(l[:5])
	}
	_ = append(first, 9)
	first[0] = 9
	if !bytes.Equal(second, []byte{3, 2, 3, 6}) {
		t.Error(second)
	}
}

func TestReadNumsLeavesWhatIsHandedIn(t *testing.T) {
	b := withSpare(point.Nums(1, -2, 3))
	whole := string(b)
	first, err := point.ReadNums(b)
	if err != nil || string(b) != whole || !spareIsWhole(b) {
		t.Fatal(first, err)
	}
	second, _ := point.ReadNums(b)
	first[0] = 9
	_ = append(first, 9)
	if !slices.Equal(second, []int64{1, -2, 3}) || string(b) != whole {
		t.Error(second, b)
	}
	b[1] = 0
	if !slices.Equal(second, []int64{1, -2, 3}) {
		t.Error("what was handed in is kept")
	}
	fails(t, "the rest lies behind the length", withSpare([]byte{3, 2}), -1, api.ErrEnd)
}

// Numbers are kept aside as any bytes are.
func TestNumsAside(t *testing.T) {
	d := newDisk(t, api.MaxDisk)
	l := numbers(api.MaxItems)
	if err := point.Write(d, "start", point.Nums(l...)); err != nil {
		t.Fatal(err)
	}
	d.Crash()
	b, err := point.Read(d, "start")
	if err != nil {
		t.Fatal(err)
	}
	if got, err := point.ReadNums(b); err != nil || !slices.Equal(got, l) {
		t.Error(err)
	}
}
