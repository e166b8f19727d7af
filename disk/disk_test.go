package disk_test

import (
	"bytes"
	"fmt"
	"math"
	"slices"
	"strings"
	"testing"

	"cordwood/api"
	"cordwood/disk"
)

// made is a disk of that much room, with files of which nothing is synced: name, bytes, name, bytes ..
func made(t *testing.T, room int, l ...string) *disk.Disk {
	t.Helper()
	d, err := disk.New(room)
	if err != nil || d == nil {
		t.Fatal(room, err)
	}
	for i := 0; i < len(l); i += 2 {
		file(t, d, l[i], l[i+1])
	}
	return d
}

// file makes a file.
func file(t *testing.T, d *disk.Disk, name, text string) {
	t.Helper()
	good(t, d.Create(name))
	good(t, d.Append(name, []byte(text)))
}

// good is fatal, if one of the errors is one.
func good(t *testing.T, l ...error) {
	t.Helper()
	for i, err := range l {
		if err != nil {
			t.Fatal(i, err)
		}
	}
}

// told is the names, each with how many of its bytes are synced, and its bytes; "down" if the power is gone.
func told(t *testing.T, d *disk.Disk) string {
	t.Helper()
	if d.Down() {
		return "down"
	}
	var l []string
	used := 0
	for _, name := range d.List() {
		n, err := d.Len(name)
		good(t, err)
		b, err := d.Read(name, 0, n)
		good(t, err)
		synced, err := d.Synced(name)
		good(t, err)
		l = append(l, fmt.Sprintf("%s/%d=%s", name, synced, b))
		used += n
	}
	if d.Used() != used {
		t.Errorf("Used %d: %q", d.Used(), l)
	}
	return strings.Join(l, " ")
}

// is checks what a disk tells.
func is(t *testing.T, d *disk.Disk, want string) {
	t.Helper()
	if got := told(t, d); got != want {
		t.Errorf("%q, not %q", got, want)
	}
}

// refused checks an error, and that neither the files nor Calls are other ones behind it.
func refused(t *testing.T, d *disk.Disk, want error, call func() error) {
	t.Helper()
	ahead, calls := told(t, d), d.Calls()
	if err := call(); err != want {
		t.Errorf("%v, not %v", err, want)
	}
	is(t, d, ahead)
	if d.Calls() != calls {
		t.Error("Calls", d.Calls(), calls)
	}
}

// wrongNames may not be names.
func wrongNames() []string {
	l := []string{"", "A", "Z", "aB", "a b", " ", "a/b", "a\x00", "a\n", "é", "a\xff", "a:", "`", "{", "@", "[", "^", ",", "0/", strings.Repeat("a", api.MaxName+1)}
	for c := range 256 {
		if !strings.ContainsRune("abcdefghijklmnopqrstuvwxyz0123456789.-_", rune(c)) {
			l = append(l, string([]byte{byte(c)}), string([]byte{'a', byte(c)}))
		}
	}
	return l
}

func TestNew(t *testing.T) {
	for _, room := range []int{0, -1, math.MinInt, api.MaxDisk + 1, math.MaxInt} {
		if d, err := disk.New(room); d != nil || err != api.ErrRange {
			t.Error(room, d, err)
		}
	}
	for _, room := range []int{1, 2, 1000, api.MaxDisk} {
		d := made(t, room)
		if len(d.List()) != 0 || d.Used() != 0 || d.Calls() != 0 || d.Down() {
			t.Error(room, d.List(), d.Used(), d.Calls(), d.Down())
		}
		good(t, d.Create("a"))
		refused(t, d, api.ErrFull, func() error { return d.Append("a", make([]byte, room+1)) })
		good(t, d.Append("a", make([]byte, room)))
		refused(t, d, api.ErrFull, func() error { return d.Append("a", []byte("x")) })
		if d.Used() != room || d.Append("a", nil) != nil {
			t.Error(room, d.Used())
		}
	}
}

func TestCreate(t *testing.T) {
	d := made(t, 10)
	for _, name := range wrongNames() {
		refused(t, d, api.ErrName, func() error { return d.Create(name) })
	}
	names := []string{"a", "z", "0", "9", ".", "-", "_", "..", "log-0000000000007", strings.Repeat("a", api.MaxName), "abcdefghijklmnopqrstuvwxyz0123456789.-_"}
	for i, name := range names {
		good(t, d.Create(name))
		if n, err := d.Len(name); n != 0 || err != nil || d.Calls() != i+1 {
			t.Error(name, n, err, d.Calls())
		}
		refused(t, d, api.ErrThere, func() error { return d.Create(name) })
	}
	slices.Sort(names)
	if !slices.Equal(d.List(), names) {
		t.Error(d.List())
	}
	good(t, d.Append("a", []byte("kept")))
	refused(t, d, api.ErrThere, func() error { return d.Create("a") })
}

func TestAppend(t *testing.T) {
	d := made(t, 10, "a", "123", "b", "")
	for _, name := range append(wrongNames(), "c", "aa") {
		refused(t, d, api.ErrNone, func() error { return d.Append(name, make([]byte, 11)) })
	}
	good(t, d.Append("b", []byte("4567")), d.Append("a", nil), d.Append("a", []byte{}))
	is(t, d, "a/0=123 b/0=4567")
	refused(t, d, api.ErrFull, func() error { return d.Append("b", []byte("89ab")) })
	refused(t, d, api.ErrFull, func() error { return d.Append("a", make([]byte, api.MaxDisk)) })
	good(t, d.Append("b", []byte("89a")))
	is(t, d, "a/0=123 b/0=456789a")
	refused(t, d, api.ErrFull, func() error { return d.Append("a", []byte("x")) })
	good(t, d.Append("b", nil))
	if d.Calls() != 9 {
		t.Error(d.Calls())
	}
}

// Room that a cut, a removed or a replaced file had is there again.
func TestRoomAgain(t *testing.T) {
	d := made(t, 10, "a", "0123456789", "b", "")
	good(t, d.Cut("a", 8))
	refused(t, d, api.ErrFull, func() error { return d.Append("b", []byte("xyz")) })
	good(t, d.Append("b", []byte("xy")), d.Rename("b", "a"))
	is(t, d, "a/0=xy")
	good(t, d.Create("b"))
	refused(t, d, api.ErrFull, func() error { return d.Append("b", make([]byte, 9)) })
	good(t, d.Append("b", []byte("abcdefgh")), d.Rename("a", "a"))
	refused(t, d, api.ErrFull, func() error { return d.Append("b", []byte("i")) })
	good(t, d.Remove("b"))
	refused(t, d, api.ErrFull, func() error { return d.Append("a", make([]byte, 9)) })
	good(t, d.Append("a", []byte("abcdefgh")))
	is(t, d, "a/0=xyabcdefgh")
}

func TestCut(t *testing.T) {
	for n := range 6 {
		d := made(t, 10, "a", "abcde", "b", "12")
		good(t, d.Cut("a", n))
		is(t, d, fmt.Sprintf("a/%d=%s b/0=12", n, "abcde"[:n]))
		good(t, d.Append("a", []byte("XY")))
		is(t, d, fmt.Sprintf("a/%d=%sXY b/0=12", n, "abcde"[:n]))
		good(t, d.Cut("a", n+1))
		is(t, d, fmt.Sprintf("a/%d=%sX b/0=12", n+1, "abcde"[:n]))
		if d.Calls() != 7 {
			t.Error(d.Calls())
		}
	}
	d := made(t, 10, "a", "abcde", "b", "")
	for _, n := range []int{-1, 6, math.MinInt, math.MaxInt} {
		refused(t, d, api.ErrRange, func() error { return d.Cut("a", n) })
		refused(t, d, api.ErrNone, func() error { return d.Cut("c", n) })
		refused(t, d, api.ErrNone, func() error { return d.Cut("C", n) })
	}
	refused(t, d, api.ErrNone, func() error { return d.Cut("c", 0) })
	refused(t, d, api.ErrRange, func() error { return d.Cut("b", 1) })
	good(t, d.Cut("b", 0), d.Sync("a"), d.Cut("a", 2))
	is(t, d, "a/2=ab b/0=")
}

func TestRename(t *testing.T) {
	d := made(t, 20, "a", "abc", "b", "12345", "c", "x")
	good(t, d.Sync("b"))
	good(t, d.Rename("a", "d"))
	is(t, d, "b/5=12345 c/0=x d/0=abc")
	refused(t, d, api.ErrNone, func() error { return d.Rename("a", "a") })
	good(t, d.Rename("b", "b"))
	is(t, d, "b/5=12345 c/0=x d/0=abc")
	good(t, d.Rename("d", "b"))
	is(t, d, "b/0=abc c/0=x")
	refused(t, d, api.ErrNone, func() error { return d.Rename("d", "b") })
	for _, name := range wrongNames() {
		refused(t, d, api.ErrName, func() error { return d.Rename("b", name) })
		refused(t, d, api.ErrNone, func() error { return d.Rename("no", name) })
		refused(t, d, api.ErrNone, func() error { return d.Rename(name, name) })
		refused(t, d, api.ErrNone, func() error { return d.Rename(name, "b") })
	}
	good(t, d.Rename("b", strings.Repeat("z", api.MaxName)), d.Append(strings.Repeat("z", api.MaxName), []byte("d")))
	is(t, d, "c/0=x "+strings.Repeat("z", api.MaxName)+"/0=abcd")
	if d.Calls() != 12 {
		t.Error(d.Calls())
	}
}

func TestRemove(t *testing.T) {
	d := made(t, 20, "a", "abc", "b", "12345")
	good(t, d.Remove("a"))
	is(t, d, "b/0=12345")
	for _, name := range append(wrongNames(), "a", "c") {
		refused(t, d, api.ErrNone, func() error { return d.Remove(name) })
	}
	good(t, d.Create("a"))
	is(t, d, "a/0= b/0=12345")
	good(t, d.Remove("b"), d.Remove("a"))
	is(t, d, "")
	if d.Calls() != 8 {
		t.Error(d.Calls())
	}
}

func TestRead(t *testing.T) {
	const text = "abcde"
	d := made(t, 20, "a", text, "empty", "")
	for off := -2; off < 8; off++ {
		for n := -2; n < 8; n++ {
			want, wantErr := "", api.ErrRange
			if off >= 0 && n >= 0 && off+n <= len(text) {
				want, wantErr = text[off:off+n], nil
			}
			if b, err := d.Read("a", off, n); string(b) != want || err != wantErr || err != nil && b != nil {
				t.Error(off, n, b, err)
			}
			if b, err := d.Read("b", off, n); b != nil || err != api.ErrNone {
				t.Error(off, n, b, err)
			}
		}
	}
	for _, x := range [][2]int{{math.MinInt, 0}, {0, math.MinInt}, {math.MaxInt, 0}, {0, math.MaxInt}, {math.MaxInt, math.MaxInt}, {1, math.MaxInt}, {5, math.MaxInt}, {math.MaxInt, 1}, {math.MinInt, math.MinInt}, {math.MinInt, math.MaxInt}} {
		if b, err := d.Read("a", x[0], x[1]); b != nil || err != api.ErrRange {
			t.Error(x, b, err)
		}
	}
	if b, err := d.Read("empty", 0, 0); len(b) != 0 || err != nil {
		t.Error(b, err)
	}
	if d.Calls() != 4 {
		t.Error("Read counts", d.Calls())
	}
	for _, name := range append(wrongNames(), "b") {
		if n, err := d.Len(name); n != 0 || err != api.ErrNone {
			t.Error(name, n, err)
		}
		if n, err := d.Synced(name); n != 0 || err != api.ErrNone {
			t.Error(name, n, err)
		}
	}
}

func TestListUsedCalls(t *testing.T) {
	d := made(t, 1000)
	var want []string
	for i := range 100 {
		name := fmt.Sprintf("%d", i*37%100)
		file(t, d, name, strings.Repeat("x", i%7))
		want = append(want, name)
	}
	slices.Sort(want)
	if got := d.List(); !slices.Equal(got, want) {
		t.Error(got)
	}
	told(t, d)
	if d.Calls() != 200 {
		t.Error(d.Calls())
	}
	d = made(t, 9, "b", "", "a", "", "_", "", "-", "", ".", "", "0", "", "aa", "", "a.", "")
	if got := strings.Join(d.List(), " "); got != "- . 0 _ a a. aa b" {
		t.Error(got)
	}
}

// What is handed in is neither kept nor changed, and what lies behind it is neither read nor written.
func TestHandedIn(t *testing.T) {
	d := made(t, 100)
	good(t, d.Create("a"), d.Create("b"))
	whole := []byte("abcdefgh")
	good(t, d.Append("a", whole[:3]), d.Append("a", whole[3:5]), d.Append("b", whole[:3]), d.Append("b", []byte("xyz")))
	if string(whole) != "abcdefgh" {
		t.Errorf("%q", whole)
	}
	copy(whole, "ZZZZZZZZ")
	is(t, d, "a/0=abcde b/0=abcxyz")
	picks := []int{7, -5, 3, 9}
	d.Crash(picks[:2]...)
	if !slices.Equal(picks, []int{7, -5, 3, 9}) {
		t.Error(picks)
	}
	d = made(t, 100, "a", "x", "b", "y")
	picks = []int{2, 1, 1}
	d.Crash(picks[:2]...)
	is(t, d, "a/1=x b/0=")
}

// Into what is handed out, and behind it, a caller may write.
func TestHandedOut(t *testing.T) {
	d := made(t, 100, "a", "abcdefgh", "b", "12", "c", "")
	good(t, d.Remove("c"))
	b1, _ := d.Read("a", 0, 4)
	b2, _ := d.Read("a", 0, 4)
	b3, _ := d.Read("a", 4, 0)
	l1, l2 := d.List(), d.List()
	for _, b := range [][]byte{b1, b3, append(b1, "more"...), b1[:cap(b1)], b3[:cap(b3)]} {
		for i := range b {
			b[i] = 'Z'
		}
	}
	for i := range l1[:cap(l1)] {
		l1[:cap(l1)][i] = "Z"
	}
	if string(b2) != "abcd" || !slices.Equal(l2, []string{"a", "b"}) {
		t.Error(b2, l2)
	}
	is(t, d, "a/0=abcdefgh b/0=12")
	b4, _ := d.Read("a", 0, 8)
	good(t, d.Cut("a", 1), d.Append("a", []byte("XXXXXXX")))
	if !bytes.Equal(b4, []byte("abcdefgh")) {
		t.Errorf("%q", b4)
	}
}
