package point_test

import (
	"bytes"
	"fmt"
	"slices"
	"strings"
	"testing"

	"cordwood/api"
	"cordwood/crc"
	"cordwood/disk"
	"cordwood/point"
)

// What a sum has of a file's bytes.
const sumLen = 4

func newDisk(t *testing.T, room int) *disk.Disk {
	t.Helper()
	d, err := disk.New(room)
	if err != nil {
		t.Fatal(err)
	}
	return d
}

// keeps writes each text under the name ahead of it.
func keeps(t *testing.T, d *disk.Disk, l ...string) {
	t.Helper()
	for i := 0; i < len(l); i += 2 {
		if err := point.Write(d, l[i], []byte(l[i+1])); err != nil {
			t.Fatalf("%s: %v", l[i], err)
		}
	}
}

// kept holds each text against what is read under the name ahead of it.
func kept(t *testing.T, what string, d *disk.Disk, l ...string) {
	t.Helper()
	for i := 0; i < len(l); i += 2 {
		if b, err := point.Read(d, l[i]); err != nil || string(b) != l[i+1] {
			t.Errorf("%s: %s has %q, %v, not %q", what, l[i], b, err, l[i+1])
		}
	}
}

// file makes one by the disk's own calls, and syncs none of it.
func file(t *testing.T, d *disk.Disk, name string, b []byte) {
	t.Helper()
	if err := d.Create(name); err != nil {
		t.Fatal(err)
	}
	if err := d.Append(name, b); err != nil {
		t.Fatal(err)
	}
}

// raw is the file's bytes.
func raw(t *testing.T, d *disk.Disk, name string) []byte {
	t.Helper()
	n, err := d.Len(name)
	if err != nil {
		t.Fatal(err)
	}
	b, err := d.Read(name, 0, n)
	if err != nil {
		t.Fatal(err)
	}
	return b
}

// look is all that a disk tells, and what it would tell behind some crashes.
func look(d *disk.Disk) string {
	s := fmt.Sprint(d.Down(), d.Calls(), d.Used())
	for moves := range 7 {
		for _, pick := range []int{0, 2, -1} {
			c := d.Clone()
			c.Crash(moves, pick, pick, pick, pick)
			s += fmt.Sprintf("\n%d %d %s", moves, pick, tells(c))
		}
	}
	return tells(d) + s
}

// tells is each file of a disk, and how much of it is synced.
func tells(d *disk.Disk) string {
	s := ""
	for _, name := range d.List() {
		n, _ := d.Len(name)
		b, _ := d.Read(name, 0, n)
		synced, _ := d.Synced(name)
		s += fmt.Sprintf("%s %x %d;", name, b, synced)
	}
	return s
}

// withSpare is b with bytes in its memory behind its length.
func withSpare(b []byte) []byte {
	return append(bytes.Clone(b), "spare bytes"...)[:len(b)]
}

func spareIsWhole(b []byte) bool {
	return string(b[len(b):len(b)+len("spare bytes")]) == "spare bytes"
}

// P8.1

func TestWriteIsRead(t *testing.T) {
	all := make([]byte, 256)
	for i := range all {
		all[i] = byte(i)
	}
	for _, s := range []string{"", "a", "\x00", "abc", "abcd", "\x00\x00\x00\x00", string(all), strings.Repeat("long ", 10000)} {
		d := newDisk(t, api.MaxDisk)
		keeps(t, d, "p", s)
		kept(t, "written", d, "p", s)
		if !bytes.Equal(raw(t, d, "p"), crc.Seal([]byte(s))) {
			t.Errorf("%q is not sealed: %q", s, raw(t, d, "p"))
		}
		if n, err := d.Synced("p"); n != len(s)+sumLen || err != nil {
			t.Errorf("%d bytes are synced, %v", n, err)
		}
		if !slices.Equal(d.List(), []string{"p"}) || d.Used() != len(s)+sumLen || d.Calls() != 5 {
			t.Error(d.List(), d.Used(), d.Calls())
		}
	}
}

func TestWriteNothing(t *testing.T) {
	for _, b := range [][]byte{nil, {}} {
		d := newDisk(t, sumLen)
		if err := point.Write(d, "p", b); err != nil {
			t.Error(err)
		}
		if got, err := point.Read(d, "p"); len(got) != 0 || err != nil {
			t.Error(got, err)
		}
		if !bytes.Equal(raw(t, d, "p"), []byte{0, 0, 0, 0}) {
			t.Error(raw(t, d, "p"))
		}
	}
}

func TestWriteOver(t *testing.T) {
	d := newDisk(t, 1000)
	keeps(t, d, "a", "ahead", "z", "behind")
	for i, s := range []string{"one", "one", "", "longer than one", "a"} {
		keeps(t, d, "p", s)
		kept(t, "over", d, "p", s, "a", "ahead", "z", "behind")
		if !slices.Equal(d.List(), []string{"a", "p", "z"}) || d.Used() != len("ahead"+s+"behind")+3*sumLen || d.Calls() != 5*(3+i) {
			t.Error(d.List(), d.Used(), d.Calls())
		}
	}
}

// What was not kept by Write is written over just so.
func TestWriteOverOtherFile(t *testing.T) {
	d := newDisk(t, 1000)
	file(t, d, "p", []byte("no seal"))
	keeps(t, d, "p", "one")
	kept(t, "over", d, "p", "one")
	if !slices.Equal(d.List(), []string{"p"}) || d.Used() != 3+sumLen {
		t.Error(d.List(), d.Used())
	}
}

func TestWriteOverNew(t *testing.T) {
	for _, junk := range []string{"", "a", "a junk that is longer than what is written"} {
		for synced := range 3 {
			d := newDisk(t, 1000)
			file(t, d, "p.new", []byte(junk))
			if synced > 0 {
				d.Sync("p.new")
			}
			if synced > 1 {
				d.SyncDir()
			}
			calls := d.Calls()
			keeps(t, d, "p", "one")
			kept(t, "over junk", d, "p", "one")
			if !slices.Equal(d.List(), []string{"p"}) || d.Used() != 3+sumLen || d.Calls() != calls+6 {
				t.Error(d.List(), d.Used(), d.Calls()-calls)
			}
		}
	}
}

// What lies aside is of its own name alone.
func TestWriteLeavesOtherNew(t *testing.T) {
	d := newDisk(t, 1000)
	for _, name := range []string{"new", ".new", "p.ne", "p-new", "p.news", "xp.new", "p.new.new"} {
		file(t, d, name, []byte(name))
	}
	before := tells(d)
	keeps(t, d, "p", "one")
	if err := d.Remove("p"); err != nil {
		t.Error(err)
	}
	if after := tells(d); after != before {
		t.Error(after)
	}
}

// A name may end in .new itself: it is taken away as that of any other file.
func TestNameEndsInNew(t *testing.T) {
	d := newDisk(t, 1000)
	keeps(t, d, "p.new", "one")
	kept(t, "written", d, "p.new", "one")
	if !slices.Equal(d.List(), []string{"p.new"}) {
		t.Error(d.List())
	}
	keeps(t, d, "p", "two")
	kept(t, "written", d, "p", "two")
	if _, err := point.Read(d, "p.new"); err != api.ErrNone {
		t.Error(err)
	}
}

func TestNamesThatMayBe(t *testing.T) {
	const bytesOfNames = "abcdefghijklmnopqrstuvwxyz0123456789.-_"
	l := []string{"a", ".", ".new", strings.Repeat("x", 59), strings.Repeat("x", 60), bytesOfNames}
	for _, c := range bytesOfNames {
		l = append(l, string(c), "a"+string(c), string(c)+"a")
	}
	for _, name := range l {
		d := newDisk(t, 1000)
		if err := point.Write(d, name, []byte("one")); err != nil {
			t.Errorf("%q: %v", name, err)
		}
		kept(t, "written", d, name, "one")
		if !slices.Equal(d.List(), []string{name}) {
			t.Error(d.List())
		}
	}
}

// noNames are texts that are no names, or are none with .new behind them.
func noNames() []string {
	l := []string{"", "é", "a\xff", "a\x00", strings.Repeat("X", 60), strings.Repeat("x", 59) + "X", strings.Repeat("x", 1<<16)}
	for n := 61; n <= 70; n++ {
		l = append(l, strings.Repeat("x", n))
	}
	for c := range 256 {
		if !strings.ContainsRune("abcdefghijklmnopqrstuvwxyz0123456789.-_", rune(c)) {
			b := string([]byte{byte(c)})
			l = append(l, b, b+"a", "a"+b, "a"+b+"a")
		}
	}
	return l
}

func TestNamesThatMayNotBe(t *testing.T) {
	d := newDisk(t, 1000)
	keeps(t, d, "p", "one")
	file(t, d, ".new", []byte("two"))
	before := look(d)
	for _, name := range noNames() {
		for _, b := range [][]byte{nil, []byte("three"), make([]byte, 2000)} {
			if err := point.Write(d, name, b); err != api.ErrName {
				t.Errorf("%q: %v", name, err)
			}
		}
	}
	if look(d) != before {
		t.Error("a name that may not be changes something")
	}
}

// ErrName comes ahead of what the disk says, and of its calls.
func TestNameAheadOfPower(t *testing.T) {
	d := newDisk(t, 1000)
	d.Arm(1)
	for _, name := range noNames() {
		if err := point.Write(d, name, nil); err != api.ErrName || d.Down() {
			t.Fatalf("%q: %v, %v", name, err, d.Down())
		}
	}
	if err := point.Write(d, "p", nil); err != api.ErrCrash || !d.Down() {
		t.Fatal(err, d.Down())
	}
	for _, name := range noNames() {
		if err := point.Write(d, name, nil); err != api.ErrName {
			t.Fatalf("%q: %v", name, err)
		}
	}
}

// steps is the calls that the chapter names for a Write, one after the other.
func steps(name string, b []byte, isNew bool) []func(*disk.Disk) error {
	laid := name + ".new"
	l := []func(*disk.Disk) error{
		func(d *disk.Disk) error { return d.Remove(laid) },
		func(d *disk.Disk) error { return d.Create(laid) },
		func(d *disk.Disk) error { return d.Append(laid, crc.Seal(b)) },
		func(d *disk.Disk) error { return d.Sync(laid) },
		func(d *disk.Disk) error { return d.Rename(laid, name) },
		func(d *disk.Disk) error { return d.SyncDir() },
	}
	if !isNew {
		return l[1:]
	}
	return l
}

// grounds are disks with something on them: p, or p.new, or both, or none, and another file.
func grounds(t *testing.T) []*disk.Disk {
	t.Helper()
	var l []*disk.Disk
	for i := range 6 {
		d := newDisk(t, 1000)
		keeps(t, d, "a", "ahead")
		if i%2 == 1 {
			keeps(t, d, "p", "elder")
		}
		if i/2 > 0 {
			file(t, d, "p.new", []byte("junk"))
		}
		if i/2 > 1 {
			d.Sync("p.new")
			d.SyncDir()
		}
		l = append(l, d)
	}
	return l
}

// The power goes in each call, one after the other: what was done up to there stays, and nothing else.
func TestWriteCallByCall(t *testing.T) {
	for i, ground := range grounds(t) {
		_, err := ground.Len("p.new")
		all := steps("p", []byte("younger"), err == nil)
		for n := range len(all) + 1 {
			d, by := ground.Clone(), ground.Clone()
			d.Arm(n + 1)
			by.Arm(n + 1)
			var want error
			for _, step := range all {
				if want = step(by); want != nil {
					break
				}
			}
			if err := point.Write(d, "p", []byte("younger")); err != want || (err == nil) != (n == len(all)) {
				t.Error(i, n, err)
			}
			if look(d) != look(by) {
				t.Errorf("%d, %d: %s, not %s", i, n, look(d), look(by))
			}
		}
	}
}

func TestWriteFull(t *testing.T) {
	for _, ahead := range []string{"", "elder"} {
		used := 0
		d := newDisk(t, 100)
		keeps(t, d, "a", "other")
		if ahead != "" {
			keeps(t, d, "p", ahead)
		}
		used = d.Used()
		most := 100 - used - sumLen
		calls := d.Calls()
		for _, n := range []int{most + 1, most + 2, 1000} {
			c := d.Clone()
			if err := point.Write(c, "p", make([]byte, n)); err != api.ErrFull {
				t.Error(n, err)
			}
			kept(t, "full", c, "a", "other")
			if b, err := point.Read(c, "p"); string(b) != ahead || (err == nil) != (ahead != "") {
				t.Errorf("%q, %v", b, err)
			}
			// Create was done.
			if got, err := c.Len("p.new"); got != 0 || err != nil || c.Used() != used || c.Calls() != calls+1 {
				t.Error(got, err, c.Used(), c.Calls()-calls)
			}
			keeps(t, c, "p", "small")
			kept(t, "behind", c, "a", "other", "p", "small")
			if !slices.Equal(c.List(), []string{"a", "p"}) {
				t.Error(c.List())
			}
		}
		keeps(t, d, "p", strings.Repeat("x", most))
		kept(t, "just room", d, "p", strings.Repeat("x", most))
	}
}

// What lies aside takes no room, as it goes first.
func TestWriteFullOfNew(t *testing.T) {
	d := newDisk(t, 50)
	keeps(t, d, "p", "elder")
	file(t, d, "p.new", make([]byte, 50-d.Used()))
	if err := point.Write(d, "p", make([]byte, 38)); err != api.ErrFull {
		t.Error(err)
	}
	kept(t, "full", d, "p", "elder")
	if n, err := d.Len("p.new"); n != 0 || err != nil {
		t.Error(n, err)
	}
	d.Append("p.new", make([]byte, 41))
	keeps(t, d, "p", strings.Repeat("x", 37))
	kept(t, "just room", d, "p", strings.Repeat("x", 37))
}

func TestNoPower(t *testing.T) {
	for _, ground := range grounds(t) {
		d := ground
		had, hadErr := point.Read(d, "p")
		d.Arm(1)
		if err := d.SyncDir(); err != api.ErrCrash {
			t.Fatal(err)
		}
		before := look(d)
		for _, name := range []string{"p", "a", "q", "p.new"} {
			if err := point.Write(d, name, []byte("x")); err != api.ErrCrash {
				t.Error(name, err)
			}
			if b, err := point.Read(d, name); len(b) != 0 || err != api.ErrCrash {
				t.Error(name, b, err)
			}
		}
		if look(d) != before {
			t.Error("something changes without power")
		}
		d.Crash()
		kept(t, "behind", d, "a", "ahead")
		if b, err := point.Read(d, "p"); !bytes.Equal(b, had) || err != hadErr {
			t.Error(b, err)
		}
	}
}

func TestReadNone(t *testing.T) {
	d := newDisk(t, 1000)
	keeps(t, d, "p", "one")
	for _, name := range append(noNames(), "q", "p.new", "pp", ".") {
		if b, err := point.Read(d, name); len(b) != 0 || err != api.ErrNone {
			t.Errorf("%q: %v, %v", name, b, err)
		}
	}
}

func TestReadTooShort(t *testing.T) {
	for n := range sumLen {
		d := newDisk(t, 1000)
		file(t, d, "p", make([]byte, n))
		if b, err := point.Read(d, "p"); len(b) != 0 || err != api.ErrEnd {
			t.Error(n, b, err)
		}
	}
}

func TestReadTurned(t *testing.T) {
	for _, s := range []string{"", "a", "some more bytes"} {
		sealed := crc.Seal([]byte(s))
		for bit := range 8 * len(sealed) {
			b := bytes.Clone(sealed)
			b[bit/8] ^= 1 << (bit % 8)
			d := newDisk(t, 1000)
			file(t, d, "p", b)
			if got, err := point.Read(d, "p"); len(got) != 0 || err != api.ErrSum {
				t.Errorf("%q, bit %d: %v, %v", s, bit, got, err)
			}
		}
	}
	d := newDisk(t, 1000)
	keeps(t, d, "p", "one")
	d.Append("p", []byte{0})
	if b, err := point.Read(d, "p"); len(b) != 0 || err != api.ErrSum {
		t.Error("a byte behind", b, err)
	}
	d.Cut("p", 3+sumLen-1)
	if b, err := point.Read(d, "p"); len(b) != 0 || err != api.ErrSum {
		t.Error("a byte too few", b, err)
	}
}

// Read takes what is sealed, whoever laid it, under each name that a file may have.
func TestReadOtherFile(t *testing.T) {
	for _, name := range []string{"p", "p.new", strings.Repeat("x", 61), strings.Repeat("x", api.MaxName)} {
		d := newDisk(t, 1000)
		file(t, d, name, crc.Seal([]byte("one")))
		before := look(d)
		kept(t, "sealed", d, name, "one")
		if look(d) != before {
			t.Error("Read changes something")
		}
	}
}

func TestWriteLeavesWhatIsHandedIn(t *testing.T) {
	d := newDisk(t, 1000)
	b := withSpare([]byte("one"))
	if err := point.Write(d, "p", b); err != nil {
		t.Fatal(err)
	}
	if string(b) != "one" || !spareIsWhole(b) {
		t.Errorf("%q", b[:cap(b)])
	}
	b[0] = 'z'
	kept(t, "another", d, "p", "one")
}

func TestReadIsNewMemory(t *testing.T) {
	for _, s := range []string{"", "one"} {
		d := newDisk(t, 1000)
		keeps(t, d, "p", s)
		first, err := point.Read(d, "p")
		if err != nil {
			t.Fatal(err)
		}
		second, _ := point.Read(d, "p")
		_ = append(first, "more than a sum"...)
		for i := range first {
			first[i] = 'z'
		}
		if string(second) != s {
			t.Errorf("%q", second)
		}
		kept(t, "written into", d, "p", s)
	}
}
