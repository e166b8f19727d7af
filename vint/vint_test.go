package vint_test

import (
	"bytes"
	"math"
	"math/big"
	"testing"

	"cordwood/api"
	"cordwood/vint"
)

// plain is n's bytes by the definition: its sevens of bits, the lowest first, cut out of its digits of base 2.
func plain(n *big.Int) []byte {
	digits := n.Text(2)
	var b []byte
	for {
		cut := max(len(digits)-7, 0)
		seven, _ := new(big.Int).SetString(digits[cut:], 2)
		digits = digits[:cut]
		if digits == "" {
			return append(b, byte(seven.Int64()))
		}
		b = append(b, byte(seven.Int64())+128)
	}
}

// plainInt is n's bytes as PutInt has them: those of 2 n, or of -2 n - 1.
func plainInt(n int64) []byte {
	twice := new(big.Int).Mul(big.NewInt(2), big.NewInt(n))
	if n < 0 {
		twice.Neg(twice).Sub(twice, big.NewInt(1))
	}
	return plain(twice)
}

// numbers are small ones, those at both ends of each length, some between, and the largest.
func numbers() []uint64 {
	l := []uint64{300, 0x0123456789abcdef, 0xfedcba9876543210, math.MaxInt64, math.MaxUint64, math.MaxUint64 - 1}
	for n := range uint64(1000) {
		l = append(l, n)
	}
	for bit := range 64 {
		n := uint64(1) << bit
		l = append(l, n-1, n, n+1, n+n/3)
	}
	return l
}

// ints are the numbers above and below 0.
func ints() []int64 {
	l := []int64{math.MinInt64, math.MinInt64 + 1, math.MaxInt64, -5, api.MaxTime, -api.MaxTime}
	for _, n := range numbers() {
		l = append(l, int64(n), -int64(n), int64(n/2), -int64(n/2)-1)
	}
	return l
}

// sevens is n bytes of 255, and what is behind.
func sevens(n int, behind ...byte) []byte {
	return append(bytes.Repeat([]byte{255}, n), behind...)
}

// zeros is n bytes of 128, and what is behind.
func zeros(n int, behind ...byte) []byte {
	return append(bytes.Repeat([]byte{128}, n), behind...)
}

// tooEarly are bytes that end ahead of a number's last one.
func tooEarly() [][]byte {
	l := [][]byte{nil, {}, {172}, {128, 129, 255}}
	for n := range 9 {
		l = append(l, sevens(n+1), zeros(n+1))
	}
	return l
}

// misshapen are bytes that are no number as Put has it.
func misshapen() [][]byte {
	l := [][]byte{
		{128, 0, 7},
		{172, 130, 0},
		zeros(9, 2), zeros(9, 3), zeros(9, 126), zeros(9, 127), sevens(9, 2), sevens(9, 3), sevens(9, 64), sevens(9, 127),
		sevens(10), zeros(10), sevens(9, 129), zeros(9, 129), zeros(9, 129, 0), zeros(10, 0), sevens(10, 1), sevens(10, 127), zeros(10, 1), sevens(50), zeros(50, 1),
	}
	for n := range 9 {
		l = append(l, zeros(n+1, 0), sevens(n+1, 0))
	}
	return l
}

// withSpare is b with bytes in its memory behind its length.
func withSpare(b []byte) []byte {
	return append(bytes.Clone(b), "spare bytes"...)[:len(b)]
}

func spareIsWhole(b []byte) bool {
	return string(b[len(b):len(b)+len("spare bytes")]) == "spare bytes"
}

// P2.1

func TestPutKnown(t *testing.T) {
	for n, want := range map[uint64][]byte{
		0:              {0},
		1:              {1},
		127:            {127},
		128:            {128, 1},
		300:            {172, 2},
		16383:          {255, 127},
		16384:          {128, 128, 1},
		1<<63 - 1:      sevens(8, 127),
		1 << 63:        zeros(9, 1),
		math.MaxUint64: sevens(9, 1),
	} {
		if got := vint.Put(nil, n); !bytes.Equal(got, want) {
			t.Errorf("Put of %d = %v, not %v", n, got, want)
		}
	}
}

func TestPutEachLength(t *testing.T) {
	for _, n := range numbers() {
		want := plain(new(big.Int).SetUint64(n))
		if got := vint.Put(nil, n); !bytes.Equal(got, want) {
			t.Errorf("Put of %d = %v, not %v", n, got, want)
		}
		if got := vint.Put([]byte("abc"), n); !bytes.Equal(got, append([]byte("abc"), want...)) {
			t.Errorf("Put of %d behind abc = %v", n, got)
		}
	}
	for k := range 9 {
		least := uint64(1) << (7 * (k + 1))
		if below, there := len(vint.Put(nil, least-1)), len(vint.Put(nil, least)); below != k+1 || there != k+2 {
			t.Errorf("around %d: %d and %d bytes", least, below, there)
		}
	}
}

func TestPutIntKnown(t *testing.T) {
	for n, want := range map[int64][]byte{
		0:             {0},
		-1:            {1},
		1:             {2},
		-2:            {3},
		63:            {126},
		-64:           {127},
		64:            {128, 1},
		-65:           {129, 1},
		150:           {172, 2},
		math.MaxInt64: append([]byte{254}, sevens(8, 1)...),
		math.MinInt64: sevens(9, 1),
	} {
		if got := vint.PutInt(nil, n); !bytes.Equal(got, want) {
			t.Errorf("PutInt of %d = %v, not %v", n, got, want)
		}
	}
}

func TestPutIntEachLength(t *testing.T) {
	for _, n := range ints() {
		want := plainInt(n)
		if got := vint.PutInt(nil, n); !bytes.Equal(got, want) {
			t.Errorf("PutInt of %d = %v, not %v", n, got, want)
		}
		if got := vint.PutInt([]byte("abc"), n); !bytes.Equal(got, append([]byte("abc"), want...)) {
			t.Errorf("PutInt of %d behind abc = %v", n, got)
		}
	}
}

func TestSize(t *testing.T) {
	for _, n := range numbers() {
		if got, want := vint.Size(n), len(plain(new(big.Int).SetUint64(n))); got != want {
			t.Errorf("Size of %d = %d, not %d", n, got, want)
		}
	}
	if vint.Size(0) != 1 || vint.Size(127) != 1 || vint.Size(128) != 2 || vint.Size(1<<63-1) != 9 || vint.Size(1<<63) != 10 || vint.Size(math.MaxUint64) != 10 {
		t.Error("the sizes at the ends")
	}
}

func TestGetIsWhatWasPut(t *testing.T) {
	for _, n := range numbers() {
		b := vint.Put(nil, n)
		for _, behind := range []string{"", "\x00", "\x01", "\x80", "\xff\xff\xff\xff\xff\xff\xff\xff\xff\xff\xff"} {
			if got, size, err := vint.Get(append(bytes.Clone(b), behind...)); got != n || size != len(b) || err != nil {
				t.Errorf("Get of %d and %q: %d, %d, %v", n, behind, got, size, err)
			}
		}
	}
}

func TestGetIntIsWhatWasPut(t *testing.T) {
	for _, n := range ints() {
		b := vint.PutInt(nil, n)
		for _, behind := range []string{"", "\x00", "\x01", "\x80", "\xff\xff\xff\xff\xff\xff\xff\xff\xff\xff\xff"} {
			if got, size, err := vint.GetInt(append(bytes.Clone(b), behind...)); got != n || size != len(b) || err != nil {
				t.Errorf("GetInt of %d and %q: %d, %d, %v", n, behind, got, size, err)
			}
		}
	}
}

func TestGetTooEarly(t *testing.T) {
	l := tooEarly()
	for _, n := range numbers() {
		b := vint.Put(nil, n)
		for i := range b {
			l = append(l, b[:i])
		}
	}
	for _, b := range l {
		if n, size, err := vint.Get(b); n != 0 || size != 0 || err != api.ErrEnd {
			t.Errorf("Get(%v) = %d, %d, %v", b, n, size, err)
		}
		if n, size, err := vint.GetInt(b); n != 0 || size != 0 || err != api.ErrEnd {
			t.Errorf("GetInt(%v) = %d, %d, %v", b, n, size, err)
		}
	}
}

func TestGetMisshapen(t *testing.T) {
	for _, b := range misshapen() {
		if n, size, err := vint.Get(b); n != 0 || size != 0 || err != api.ErrShape {
			t.Errorf("Get(%v) = %d, %d, %v", b, n, size, err)
		}
		if n, size, err := vint.GetInt(b); n != 0 || size != 0 || err != api.ErrShape {
			t.Errorf("GetInt(%v) = %d, %d, %v", b, n, size, err)
		}
	}
}

// What Get reads is just what Put has: of all beginnings of two bytes, and of all tenth ones.
func TestGetReadsJustWhatPutHas(t *testing.T) {
	var l [][]byte
	for first := range 256 {
		for second := range 256 {
			l = append(l, []byte{byte(first), byte(second)})
		}
		l = append(l, sevens(9, byte(first)), zeros(9, byte(first)))
	}
	for _, b := range l {
		n, size, err := vint.Get(b)
		if err == nil && !bytes.Equal(vint.Put(nil, n), b[:size]) {
			t.Errorf("Get(%v) = %d, %d", b, n, size)
		}
		i, size, err := vint.GetInt(b)
		if err == nil && !bytes.Equal(vint.PutInt(nil, i), b[:size]) {
			t.Errorf("GetInt(%v) = %d, %d", b, i, size)
		}
	}
}

func TestPutIsNewMemory(t *testing.T) {
	for _, put := range []func(b []byte) []byte{
		func(b []byte) []byte { return vint.Put(b, 300) },
		func(b []byte) []byte { return vint.PutInt(b, 150) },
	} {
		b := withSpare([]byte("abc"))
		first, second := put(b), put(b)
		first[0] = 'z'
		_ = append(first, 'x')
		if string(b) != "abc" || !spareIsWhole(b) || string(second) != "abc\xac\x02" {
			t.Error("it hands out memory that is not new")
		}
		b[1] = 'y'
		if first[1] != 'b' {
			t.Error("it keeps what is handed in")
		}
		empty := withSpare(nil)
		if got := put(empty); string(got) != "\xac\x02" || !spareIsWhole(empty) {
			t.Error("behind an empty list:", got)
		}
	}
}

func TestGetLeavesWhatIsHandedIn(t *testing.T) {
	b := withSpare([]byte{172, 130})
	if _, _, err := vint.Get(b); err != api.ErrEnd {
		t.Error("Get reads behind the length:", err)
	}
	if _, _, err := vint.GetInt(b); err != api.ErrEnd {
		t.Error("GetInt reads behind the length:", err)
	}
	whole := withSpare([]byte{172, 2, 9})
	if n, _, _ := vint.Get(whole); n != 300 {
		t.Error(n)
	}
	if n, _, _ := vint.GetInt(whole); n != 150 {
		t.Error(n)
	}
	if !bytes.Equal(whole, []byte{172, 2, 9}) || !spareIsWhole(whole) || !bytes.Equal(b, []byte{172, 130}) || !spareIsWhole(b) {
		t.Error("what was handed in is changed")
	}
}
