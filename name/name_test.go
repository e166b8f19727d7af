package name_test

import (
	"fmt"
	"math"
	"math/big"
	"regexp"
	"slices"
	"strings"
	"testing"

	"cordwood/api"
	"cordwood/name"
)

var (
	namePattern    = regexp.MustCompile(`\A[a-z0-9._-]{1,64}\z`)
	kindPattern    = regexp.MustCompile(`\A[a-z]{1,8}\z`)
	segmentPattern = regexp.MustCompile(`\Alog-([0-9]{13})\z`)
	objectPattern  = regexp.MustCompile(`\Aseg-([0-9]{10})-([a-z]{1,8})-([0-9]{13})\z`)
)

// offsets are right ones: those at both ends, at each count of digits and of bits, and some between.
func offsets() []int64 {
	l := []int64{0, 7, 34, 1234567890123 % api.MaxOffset, api.MaxOffset - 1, api.MaxOffset}
	for n := int64(10); n < api.MaxOffset; n *= 10 {
		l = append(l, n-1, n, n+1, n*7%api.MaxOffset)
	}
	for bit := range 40 {
		l = append(l, 1<<bit, 1<<bit-1)
	}
	return l
}

// wrongOffsets are offsets that are not right: those beside the ends, some that would be right cut to 32 or 40 bits, and the greatest.
func wrongOffsets() []int64 {
	return []int64{
		-1, -7, -999999999999, -api.MaxOffset, math.MinInt32, math.MinInt64, math.MinInt64 + 1,
		api.MaxOffset + 1, api.MaxOffset + 7, 2 * api.MaxOffset, 9999999999999, 10000000000000, math.MaxInt64,
	}
}

// ids are right ones: those at both ends, at each count of digits and of bits.
func ids() []int {
	l := []int{0, 5, 12, math.MaxInt32 - 1, math.MaxInt32}
	for n := 10; n < math.MaxInt32; n *= 10 {
		l = append(l, n-1, n, n+1)
	}
	for bit := range 31 {
		l = append(l, 1<<bit, 1<<bit-1)
	}
	return l
}

func wrongIDs() []int {
	return []int{-1, -2, math.MinInt32, math.MinInt64, math.MaxInt32 + 1, math.MaxUint32, 1 << 32, 1<<32 + 7, 9999999999, 10000000000, math.MaxInt64}
}

func kinds() []string {
	l := []string{"data", "marks", "az", "zzzzzzz", "abcdefgh", "zzzzzzzz"}
	for c := byte('a'); c <= 'z'; c++ {
		l = append(l, string([]byte{c}))
	}
	return l
}

func wrongKinds() []string {
	l := []string{"", "abcdefghi", strings.Repeat("k", 64), strings.Repeat("k", 1000), "a-b", "-", "-a", "a-", "a b", " a", "a ", "a\n", "ab1", "data.", "Data", "datA", "dät", "ａ"}
	for c := range 256 {
		if c < 'a' || c > 'z' {
			s := string([]byte{byte(c)})
			l = append(l, s, "a"+s, s+"a", "abcdefg"+s, "abc"+s+"efg")
		}
	}
	return l
}

// near are texts that are s but for one byte: another one, one too few, one too many; and s cut, turned, twice, with more around.
func near(s string) []string {
	l := []string{"", s + s, " " + s, s + " ", s + "\n", "\n" + s, s + "\x00", s + ".new", "x" + s, strings.ToUpper(s), strings.Repeat(s, 100), strings.Repeat("0", 1000), s + strings.Repeat("0", 1000), strings.Repeat("-", 1000)}
	for i := range len(s) {
		l = append(l, s[:i], s[i+1:], s[:i]+s[i+1:], s[:i]+strings.ToUpper(s[i:i+1])+s[i+1:])
		for c := range 256 {
			l = append(l, s[:i]+string([]byte{byte(c)})+s[i+1:], s[:i]+string([]byte{byte(c)})+s[i:])
		}
		for _, r := range "٣３é—−" { // digits, letters and dashes that are none of these bytes
			l = append(l, s[:i]+string(r)+s[i+1:])
		}
	}
	return l
}

// number is the digits' number, and whether it is at most that.
func number(digits string, most int64) (int64, bool) {
	n, _ := new(big.Int).SetString(digits, 10)
	if n.Cmp(big.NewInt(most)) > 0 {
		return 0, false
	}
	return n.Int64(), true
}

// plainBase is what the chapter says of Base, by its pattern.
func plainBase(s string) (int64, bool) {
	m := segmentPattern.FindStringSubmatch(s)
	if m == nil {
		return 0, false
	}
	return number(m[1], api.MaxOffset)
}

// plainParts is what the chapter says of Parts, by its pattern.
func plainParts(s string) (int, string, int64, bool) {
	m := objectPattern.FindStringSubmatch(s)
	if m == nil {
		return 0, "", 0, false
	}
	id, isID := number(m[1], math.MaxInt32)
	base, isBase := number(m[3], api.MaxOffset)
	if !isID || !isBase {
		return 0, "", 0, false
	}
	return int(id), m[2], base, true
}

func checkBase(t *testing.T, s string) {
	t.Helper()
	n, is := name.Base(s)
	if want, wantIs := plainBase(s); n != want || is != wantIs {
		t.Errorf("Base(%q) = %d, %v, not %d, %v", s, n, is, want, wantIs)
	}
}

func checkParts(t *testing.T, s string) {
	t.Helper()
	id, kind, base, is := name.Parts(s)
	if wantID, wantKind, wantBase, wantIs := plainParts(s); id != wantID || kind != wantKind || base != wantBase || is != wantIs {
		t.Errorf("Parts(%q) = %d, %q, %d, %v, not %d, %q, %d, %v", s, id, kind, base, is, wantID, wantKind, wantBase, wantIs)
	}
}

// P5.1

func TestValidKnown(t *testing.T) {
	for _, s := range []string{"a", "z", "0", "9", ".", "-", "_", "..", "log-0000000000007", "segment_1.new", strings.Repeat("x", 63), strings.Repeat("x", 64), strings.Repeat(".", 64)} {
		if !name.Valid(s) {
			t.Errorf("%q is a name", s)
		}
	}
	for _, s := range []string{"", " ", "A", "Z", "/", ":", "`", "{", ",", "^", "@", "a b", "a/b", " a", "a ", "a\n", "\x00", "a\x00", "ä", "é", "ａ", "\xff", "\x80", "aB", strings.Repeat("x", 65), strings.Repeat("x", 66), strings.Repeat("x", 128), strings.Repeat("x", 1<<16), strings.Repeat("ä", 32), strings.Repeat("A", 64)} {
		if name.Valid(s) {
			t.Errorf("%q is no name", s)
		}
	}
}

// Each byte at each place, in names of each length around the bounds.
func TestValidEachByte(t *testing.T) {
	for _, size := range []int{1, 2, 3, 63, 64, 65} {
		for at := range size {
			for c := range 256 {
				b := []byte(strings.Repeat("m", size))
				b[at] = byte(c)
				s := string(b)
				if got, want := name.Valid(s), namePattern.MatchString(s); got != want {
					t.Errorf("Valid(%q) = %v", s, got)
				}
			}
		}
	}
	for size := range 200 {
		if got := name.Valid(strings.Repeat("-", size)); got != (size >= 1 && size <= api.MaxName) {
			t.Error(size, got)
		}
	}
}

func TestSegmentKnown(t *testing.T) {
	for n, want := range map[int64]string{
		0:                 "log-0000000000000",
		7:                 "log-0000000000007",
		10:                "log-0000000000010",
		999999999999:      "log-0999999999999",
		1000000000000:     "log-1000000000000",
		api.MaxOffset - 1: "log-1099511627775",
		api.MaxOffset:     "log-1099511627776",
	} {
		if got := name.Segment(n); got != want {
			t.Errorf("Segment(%d) = %q", n, got)
		}
	}
}

func TestSegment(t *testing.T) {
	for _, n := range offsets() {
		s := name.Segment(n)
		if s != fmt.Sprintf("log-%013d", n) || !name.Valid(s) {
			t.Errorf("Segment(%d) = %q", n, s)
		}
		if got, is := name.Base(s); got != n || !is {
			t.Errorf("Base(%q) = %d, %v", s, got, is)
		}
	}
	for _, n := range wrongOffsets() {
		if s := name.Segment(n); s != "" {
			t.Errorf("Segment(%d) = %q", n, s)
		}
	}
}

// Names rise as their offsets do.
func TestSegmentsRise(t *testing.T) {
	l := offsets()
	slices.Sort(l)
	l = slices.Compact(l)
	for i := range len(l) - 1 {
		if name.Segment(l[i]) >= name.Segment(l[i+1]) {
			t.Error(l[i], l[i+1])
		}
	}
}

func TestBaseKnown(t *testing.T) {
	for s, want := range map[string]int64{"log-0000000000000": 0, "log-0000000000007": 7, "log-0000000000010": 10, "log-1099511627776": api.MaxOffset} {
		if n, is := name.Base(s); n != want || !is {
			t.Errorf("Base(%q) = %d, %v", s, n, is)
		}
	}
	for _, s := range []string{
		"", "l", "log", "log-", "-", "0", "7", "0000000000007", "-0000000000007",
		"log-7", "log-000000000007", "log-00000000000007", "log-00000000000000000000007", "log0000000000007", "log--0000000000007", "log-0000000000007-",
		"log-1099511627777", "log-1099511627780", "log-9999999999999", "log-10000000000000", "log-9223372036854775807", "log-18446744073709551623", "log-99999999999999999999999",
		"log-+000000000007", "log--000000000007", "log- 000000000007", "log-000000000007 ", "log-0x00000000007", "log-0b00000000001", "log-0o00000000007", "log-0_00000000007", "log-000_000_00007", "log-00000000007.0", "log-000000000007.", "log-00000000001e3", "log-000000000000a", "log-00000000000Ⅶ", "log-\x00000000000007",
		"Log-0000000000007", "LOG-0000000000007", "log_0000000000007", "seg-0000000000007", "lox-0000000000007", "xog-0000000000007", " log-0000000000007", "xlog-0000000000007", "log-log-0000000000007", "log-0000000000007.new", "log-0000000000007\n",
		"seg-0000000012-data-0000000000034", strings.Repeat("0", 1<<16), "log-" + strings.Repeat("0", 1<<16) + "7", "log-" + strings.Repeat("9", 1<<16),
	} {
		if n, is := name.Base(s); n != 0 || is {
			t.Errorf("Base(%q) = %d, %v", s, n, is)
		}
	}
}

func TestBaseOfWhatIsNear(t *testing.T) {
	for _, n := range []int64{0, 7, 34567, 999999999999, api.MaxOffset - 1, api.MaxOffset} {
		for _, s := range near(fmt.Sprintf("log-%013d", n)) {
			checkBase(t, s)
		}
	}
	for n := int64(api.MaxOffset - 200); n < api.MaxOffset+200; n++ {
		checkBase(t, fmt.Sprintf("log-%d", n))
	}
	for _, n := range wrongOffsets() {
		checkBase(t, fmt.Sprintf("log-%013d", n))
	}
	for _, n := range offsets() {
		for digits := range 20 {
			checkBase(t, fmt.Sprintf("log-%0*d", digits, n))
		}
		checkBase(t, fmt.Sprintf("log-%+013d", n))
		checkBase(t, fmt.Sprintf("log-%+012d", n))
		checkBase(t, fmt.Sprintf("log-%13d", n))
	}
}

// P5.2

func TestObjectKnown(t *testing.T) {
	for _, x := range []struct {
		id   int
		kind string
		base int64
		want string
	}{
		{0, "a", 0, "seg-0000000000-a-0000000000000"},
		{12, "data", 34, "seg-0000000012-data-0000000000034"},
		{1, "marks", 10, "seg-0000000001-marks-0000000000010"},
		{999999999, "z", 999999999999, "seg-0999999999-z-0999999999999"},
		{1000000000, "az", 1000000000000, "seg-1000000000-az-1000000000000"},
		{1<<31 - 1, "abcdefgh", api.MaxOffset, "seg-2147483647-abcdefgh-1099511627776"},
		{1<<31 - 1, "log", 0, "seg-2147483647-log-0000000000000"},
		{0, "seg", api.MaxOffset, "seg-0000000000-seg-1099511627776"},
	} {
		if got := name.Object(x.id, x.kind, x.base); got != x.want || !name.Valid(got) {
			t.Errorf("Object(%d, %q, %d) = %q", x.id, x.kind, x.base, got)
		}
		if id, kind, base, is := name.Parts(x.want); id != x.id || kind != x.kind || base != x.base || !is {
			t.Errorf("Parts(%q) = %d, %q, %d, %v", x.want, id, kind, base, is)
		}
	}
}

func TestObject(t *testing.T) {
	for _, id := range ids() {
		for _, kind := range kinds() {
			for _, base := range []int64{0, 1, 34, api.MaxOffset - 1, api.MaxOffset} {
				checkObject(t, id, kind, base)
			}
		}
		for _, base := range offsets() {
			checkObject(t, id, "data", base)
		}
	}
}

// checkObject checks a name of parts that are right, and that they are read back.
func checkObject(t *testing.T, id int, kind string, base int64) {
	t.Helper()
	s := name.Object(id, kind, base)
	if s != fmt.Sprintf("seg-%010d-%s-%013d", id, kind, base) || !name.Valid(s) {
		t.Errorf("Object(%d, %q, %d) = %q", id, kind, base, s)
	}
	if gotID, gotKind, gotBase, is := name.Parts(s); gotID != id || gotKind != kind || gotBase != base || !is {
		t.Errorf("Parts(%q) = %d, %q, %d, %v", s, gotID, gotKind, gotBase, is)
	}
}

// One part that may not be is enough, and so are two, or all.
func TestObjectOfWrongParts(t *testing.T) {
	empty := func(id int, kind string, base int64) {
		t.Helper()
		if s := name.Object(id, kind, base); s != "" {
			t.Errorf("Object(%d, %q, %d) = %q", id, kind, base, s)
		}
	}
	for _, id := range wrongIDs() {
		for _, kind := range kinds() {
			empty(id, kind, 0)
			empty(id, kind, api.MaxOffset)
		}
		for _, base := range wrongOffsets() {
			empty(id, "data", base)
			empty(id, "", base)
		}
	}
	for _, kind := range wrongKinds() {
		if kindPattern.MatchString(kind) {
			t.Fatal(kind)
		}
		for _, id := range []int{0, 12, math.MaxInt32, -1, math.MaxInt32 + 1} {
			for _, base := range []int64{0, 34, api.MaxOffset, -1, api.MaxOffset + 1} {
				empty(id, kind, base)
			}
		}
	}
	for _, base := range wrongOffsets() {
		for _, id := range ids() {
			empty(id, "a", base)
		}
		for _, kind := range kinds() {
			empty(0, kind, base)
		}
	}
}

func TestPartsOfOthers(t *testing.T) {
	for _, s := range []string{
		"", "s", "seg", "seg-", "-", "--", "---", "----", "seg---", "seg-0000000000", "seg-0000000000-", "seg-0000000000-a", "seg-0000000000-a-", "0000000000-a-0000000000000", "-0000000000-a-0000000000000",
		"seg-0-a-0", "seg-000000000-a-0000000000000", "seg-00000000000-a-0000000000000", "seg-0000000000-a-000000000000", "seg-0000000000-a-00000000000000", "seg-00000000000-a-000000000000", "seg-000000000-a-00000000000000",
		"seg-2147483648-a-0000000000000", "seg-2147483650-a-0000000000000", "seg-4294967295-a-0000000000000", "seg-4294967296-a-0000000000000", "seg-9999999999-a-0000000000000", "seg-10000000000-a-0000000000000", "seg-18446744073709551616-a-0000000000000",
		"seg-0000000000-a-1099511627777", "seg-0000000000-a-9999999999999", "seg-0000000000-a-18446744073709551616",
		"seg-0000000000--0000000000000", "seg-0000000000-abcdefghi-0000000000000", "seg-0000000000-A-0000000000000", "seg-0000000000-Data-0000000000000", "seg-0000000000-a1-0000000000000", "seg-0000000000-a.b-0000000000000", "seg-0000000000-a_b-0000000000000", "seg-0000000000-a-b-0000000000000", "seg-0000000000-ä-0000000000000", "seg-0000000000- -0000000000000",
		"seg-+000000000-a-0000000000000", "seg--000000000-a-0000000000000", "seg-0000000000-a--000000000000", "seg-0000000000-a-+000000000000", "seg-0x00000000-a-0000000000000", "seg-0_00000000-a-0000000000000", "seg-0000000000-a-0_00000000000", "seg- 000000000-a-0000000000000", "seg-0000000000-a- 000000000000", "seg-00000000x0-a-0000000000000", "seg-0000000000-a-000000000000x",
		"seg-0000000000-a-0000000000000-", "-seg-0000000000-a-0000000000000", "seg-0000000000-a-0000000000000-a", "seg-0000000000--a-0000000000000", "seg--0000000000-a-0000000000000", "seg-0000000000-a--0000000000000",
		"sag-0000000000-a-0000000000000", "log-0000000000-a-0000000000000", "SEG-0000000000-a-0000000000000", "Seg-0000000000-a-0000000000000", " seg-0000000000-a-0000000000000", "xseg-0000000000-a-0000000000000", "segx-0000000000-a-0000000000000", "seg_0000000000_a_0000000000000", "seg0000000000a0000000000000", "seg-0000000000-a_0000000000000", "seg.0000000000.a.0000000000000",
		"seg-0000000000-a-0000000000000\n", "seg-0000000000-a-0000000000000.new", "seg-0000000000000-a-0000000000", "seg-a-0000000000-0000000000000", "log-0000000000007",
		strings.Repeat("-", 1<<16), strings.Repeat("0", 1<<16), "seg-" + strings.Repeat("0", 1<<16) + "-a-0000000000000", "seg-0000000000-" + strings.Repeat("a", 1<<16) + "-0000000000000",
	} {
		if id, kind, base, is := name.Parts(s); id != 0 || kind != "" || base != 0 || is {
			t.Errorf("Parts(%q) = %d, %q, %d, %v", s, id, kind, base, is)
		}
	}
}

func TestPartsOfWhatIsNear(t *testing.T) {
	for _, s := range []string{"seg-0000000000-a-0000000000000", "seg-0000000012-data-0000000000034", "seg-2147483647-abcdefgh-1099511627776", "seg-2147483646-zzzzzzz-1099511627775"} {
		checkParts(t, s)
		for _, close := range near(s) {
			checkParts(t, close)
		}
	}
	for n := range 200 {
		checkParts(t, fmt.Sprintf("seg-%010d-a-%013d", math.MaxInt32-100+n, 5))
		checkParts(t, fmt.Sprintf("seg-%010d-a-%013d", 5, api.MaxOffset-100+n))
	}
	for _, id := range slices.Concat(ids(), wrongIDs()) {
		for digits := range 16 {
			checkParts(t, fmt.Sprintf("seg-%0*d-a-%013d", digits, id, 5))
			checkParts(t, fmt.Sprintf("seg-%010d-a-%0*d", 5, digits, id))
		}
		checkParts(t, fmt.Sprintf("seg-%+010d-a-%+013d", id, 5))
	}
	for _, kind := range slices.Concat(kinds(), wrongKinds()) {
		checkParts(t, fmt.Sprintf("seg-%010d-%s-%013d", 5, kind, 7))
	}
	for _, base := range slices.Concat(offsets(), wrongOffsets()) {
		checkParts(t, fmt.Sprintf("seg-%010d-data-%013d", 5, base))
	}
}

// What is named by one is not read by the other.
func TestSegmentsAndObjectsAreApart(t *testing.T) {
	for _, n := range offsets() {
		checkParts(t, name.Segment(n))
		checkBase(t, name.Object(12, "data", n))
	}
}
