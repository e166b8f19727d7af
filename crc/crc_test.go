package crc_test

import (
	"bytes"
	"hash/crc32"
	"math"
	"testing"

	"cordwood/api"
	"cordwood/crc"
)

// plain is the sum by the definition, bit after bit.
func plain(b []byte) uint32 {
	rest := uint32(math.MaxUint32)
	for _, c := range b {
		rest ^= uint32(c)
		for range 8 {
			if rest&1 == 1 {
				rest = rest>>1 ^ 0x82f63b78
			} else {
				rest >>= 1
			}
		}
	}
	return ^rest
}

// text is n bytes that don't repeat soon, other ones for each seed.
func text(n int, seed uint32) []byte {
	b := make([]byte, n)
	for i := range b {
		seed = seed*1664525 + 1013904223
		b[i] = byte(seed >> 24)
	}
	return b
}

// sums are sums of texts, and numbers at the edges.
func sums() []uint32 {
	return []uint32{0, 1, 77, 1 << 31, math.MaxUint32, math.MaxUint32 - 1, crc.Of([]byte("a")), crc.Of(text(100, 3))}
}

// withSpare is b with bytes in its memory behind its length.
func withSpare(b []byte) []byte {
	return append(bytes.Clone(b), "spare bytes"...)[:len(b)]
}

func spareIsWhole(b []byte) bool {
	return string(b[len(b):len(b)+len("spare bytes")]) == "spare bytes"
}

// P1.1

func TestOfKnown(t *testing.T) {
	for _, x := range []struct {
		text string
		want uint32
	}{
		{"", 0},
		{"a", 0xc1d04330},
		{"abc", 0x364b3fb7},
		{"123456789", 0xe3069283},
		{string(make([]byte, 32)), 0x8a9136aa},
		{string(bytes.Repeat([]byte{0xff}, 32)), 0x62a8ab43},
	} {
		if got := crc.Of([]byte(x.text)); got != x.want {
			t.Errorf("Of(%q) = %#x, not %#x", x.text, got, x.want)
		}
	}
}

func TestOfEachByte(t *testing.T) {
	for c := range 256 {
		for _, b := range [][]byte{{byte(c)}, {7, byte(c)}, {byte(c), 7}} {
			if got, want := crc.Of(b), plain(b); got != want {
				t.Errorf("Of(%v) = %#x, not %#x", b, got, want)
			}
		}
	}
}

func TestOfEachLength(t *testing.T) {
	table := crc32.MakeTable(crc32.Castagnoli)
	for n := range 600 {
		b := text(n, uint32(n))
		if got := crc.Of(b); got != plain(b) || got != crc32.Checksum(b, table) {
			t.Errorf("%d bytes: %#x, not %#x", n, got, plain(b))
		}
	}
	b := text(1<<22, 9)
	if got, want := crc.Of(b), crc32.Checksum(b, table); got != want {
		t.Errorf("a long text: %#x, not %#x", got, want)
	}
}

func TestOfParts(t *testing.T) {
	b := text(40, 1)
	want := plain(b)
	for i := range len(b) + 1 {
		for j := i; j <= len(b); j++ {
			if got := crc.Of(b[:i], b[i:j], b[j:]); got != want {
				t.Errorf("cut at %d and %d: %#x, not %#x", i, j, got, want)
			}
		}
	}
	if crc.Of(b[:20], b[20:]) == crc.Of(b[20:], b[:20]) {
		t.Error("the order of the parts does not count")
	}
}

func TestOfNothing(t *testing.T) {
	if crc.Of() != 0 || crc.Of(nil) != 0 || crc.Of([]byte{}) != 0 || crc.Of(nil, []byte{}, nil) != 0 || crc.Of([][]byte(nil)...) != 0 {
		t.Error("no parts and empty ones have the sum 0")
	}
	if crc.Of(nil, []byte("1234"), nil, []byte{}, []byte("56789"), nil) != 0xe3069283 {
		t.Error("empty parts change the sum")
	}
}

func TestMore(t *testing.T) {
	b := text(100, 2)
	for n := range len(b) + 1 {
		if got, want := crc.More(crc.Of(b[:n]), b[n:]), plain(b); got != want {
			t.Errorf("cut at %d: %#x, not %#x", n, got, want)
		}
	}
	table := crc32.MakeTable(crc32.Castagnoli)
	for _, s := range sums() {
		if crc.More(s, nil) != s || crc.More(s, []byte{}) != s {
			t.Errorf("nothing behind %#x changes it", s)
		}
		if got, want := crc.More(s, b), crc32.Update(s, table, b); got != want {
			t.Errorf("behind %#x: %#x, not %#x", s, got, want)
		}
	}
}

func TestSumsLeaveWhatIsHandedIn(t *testing.T) {
	b := withSpare([]byte("123456789"))
	parts := [][]byte{b, nil, b}
	if crc.Of(b) != 0xe3069283 || crc.More(0, b) != 0xe3069283 || crc.Of(parts...) != plain([]byte("123456789123456789")) {
		t.Error("bytes behind the length count")
	}
	if string(b) != "123456789" || !spareIsWhole(b) || len(parts) != 3 || &parts[0][0] != &b[0] || parts[1] != nil || &parts[2][0] != &b[0] {
		t.Error("what was handed in is changed")
	}
}

// P1.2

func TestSealIsLittle(t *testing.T) {
	for in, want := range map[string]string{
		"":          "\x00\x00\x00\x00",
		"abc":       "abc\xb7\x3f\x4b\x36",
		"123456789": "123456789\x83\x92\x06\xe3",
	} {
		if got := crc.Seal([]byte(in)); string(got) != want {
			t.Errorf("Seal(%q) = %q, not %q", in, got, want)
		}
	}
	if got := crc.Seal(nil); string(got) != "\x00\x00\x00\x00" {
		t.Errorf("Seal(nil) = %q", got)
	}
}

func TestOpenIsWhatWasSealed(t *testing.T) {
	for n := range 300 {
		b := text(n, uint32(n))
		got, err := crc.Open(crc.Seal(b))
		if err != nil || !bytes.Equal(got, b) {
			t.Errorf("%d bytes: %v, %v", n, got, err)
		}
	}
	if got, err := crc.Open(crc.Seal(nil)); len(got) > 0 || err != nil {
		t.Errorf("nothing sealed: %v, %v", got, err)
	}
}

func TestOpenTooShort(t *testing.T) {
	for _, b := range [][]byte{nil, {}, {0}, {0, 0}, {0, 0, 0}, {1, 2, 3}} {
		if got, err := crc.Open(b); got != nil || err != api.ErrEnd {
			t.Errorf("Open(%v) = %v, %v", b, got, err)
		}
	}
	if got, err := crc.Open(make([]byte, 4)[:3]); got != nil || err != api.ErrEnd {
		t.Errorf("bytes behind the length count: %v, %v", got, err)
	}
}

func TestOpenWrongSum(t *testing.T) {
	for _, n := range []int{0, 1, 4, 33} {
		sealed := crc.Seal(text(n, 5))
		for bit := range 8 * len(sealed) {
			b := bytes.Clone(sealed)
			b[bit/8] ^= 1 << (bit % 8)
			if got, err := crc.Open(b); got != nil || err != api.ErrSum {
				t.Errorf("%d bytes, bit %d: %v, %v", n, bit, got, err)
			}
		}
	}
	turned := []byte("abc\x36\x4b\x3f\xb7")
	if got, err := crc.Open(turned); got != nil || err != api.ErrSum {
		t.Errorf("the highest byte first: %v, %v", got, err)
	}
	sealed := crc.Seal([]byte("abc"))
	for _, b := range [][]byte{sealed[1:], sealed[:len(sealed)-1], append(bytes.Clone(sealed), 0)} {
		if got, err := crc.Open(b); got != nil || err != api.ErrSum {
			t.Errorf("Open(%v) = %v, %v", b, got, err)
		}
	}
}

func TestSealIsNewMemory(t *testing.T) {
	b := withSpare([]byte("abc"))
	first, second := crc.Seal(b), crc.Seal(b)
	first[0] = 'z'
	_ = append(first, 'x')
	if string(b) != "abc" || !spareIsWhole(b) || string(second) != "abc\xb7\x3f\x4b\x36" {
		t.Error("Seal hands out memory that is not new")
	}
	b[1] = 'y'
	if first[1] != 'b' {
		t.Error("Seal keeps what is handed in")
	}
}

func TestOpenIsNewMemory(t *testing.T) {
	sealed := withSpare(crc.Seal([]byte("abc")))
	whole := string(sealed)
	first, err := crc.Open(sealed)
	if err != nil {
		t.Fatal(err)
	}
	second, _ := crc.Open(sealed)
	first[0] = 'z'
	_ = append(first, 'x')
	if string(sealed) != whole || !spareIsWhole(sealed) || string(second) != "abc" {
		t.Error("Open hands out memory that is not new")
	}
	sealed[1] = 'y'
	if first[1] != 'b' {
		t.Error("Open keeps what is handed in")
	}

	empty := crc.Seal(nil)
	none, _ := crc.Open(empty)
	_ = append(none, 1, 2, 3, 4)
	if string(empty) != "\x00\x00\x00\x00" {
		t.Error("Open hands out the memory of an empty seal")
	}
}

// P1.3

func TestJoinEachCut(t *testing.T) {
	b := text(300, 6)
	want := plain(b)
	for n := range len(b) + 1 {
		if got := crc.Join(plain(b[:n]), plain(b[n:]), len(b)-n); got != want {
			t.Errorf("cut at %d: %#x, not %#x", n, got, want)
		}
	}
}

func TestJoinLong(t *testing.T) {
	ahead := text(37, 7)
	for _, n := range []int{1 << 10, 1<<16 - 1, 1 << 16, 1<<19 + 1, 1<<20 - 1, 1 << 20} {
		behind := text(n, 8)
		if got, want := crc.Join(crc.Of(ahead), crc.Of(behind), n), crc.Of(ahead, behind); got != want {
			t.Errorf("%d bytes: %#x, not %#x", n, got, want)
		}
	}
}

func TestJoinOfAnySum(t *testing.T) {
	behind := text(50, 4)
	for _, s := range sums() {
		if got, want := crc.Join(s, crc.Of(behind), len(behind)), crc.More(s, behind); got != want {
			t.Errorf("behind %#x: %#x, not %#x", s, got, want)
		}
	}
}

func TestJoinNothing(t *testing.T) {
	for _, s := range sums() {
		if got := crc.Join(s, 0, 0); got != s {
			t.Errorf("nothing behind %#x: %#x", s, got)
		}
	}
	b := text(20, 1)
	if got := crc.Join(0, crc.Of(b), len(b)); got != crc.Of(b) {
		t.Errorf("behind nothing: %#x", got)
	}
}

func TestJoinOutside(t *testing.T) {
	for _, n := range []int{-1, -2, -1 << 20, math.MinInt, 1<<20 + 1, 1 << 21, math.MaxInt32, math.MaxInt} {
		for _, s := range sums() {
			if got := crc.Join(s, 2, n); got != 0 {
				t.Errorf("Join(%#x, 2, %d) = %#x", s, n, got)
			}
		}
	}
}
