package disk_test

import (
	"fmt"
	"math"
	"slices"
	"strings"
	"testing"

	"cordwood/api"
	"cordwood/disk"
)

// changes is a call of each kind that changes, none of which has an error on a disk with the file a, and without b.
func changes() []func(*disk.Disk) error {
	return []func(*disk.Disk) error{
		func(d *disk.Disk) error { return d.Create("b") },
		func(d *disk.Disk) error { return d.Append("a", []byte("x")) },
		func(d *disk.Disk) error { return d.Cut("a", 1) },
		func(d *disk.Disk) error { return d.Sync("a") },
		func(d *disk.Disk) error { return d.Rename("a", "b") },
		func(d *disk.Disk) error { return d.Rename("a", "a") },
		func(d *disk.Disk) error { return d.Remove("a") },
		(*disk.Disk).SyncDir,
	}
}

// faults is a call of each kind that can have another error than ErrCrash, and has one, on a disk with the file a and room 10.
func faults() []func(*disk.Disk) error {
	return []func(*disk.Disk) error{
		func(d *disk.Disk) error { return d.Create("a") },
		func(d *disk.Disk) error { return d.Create("A") },
		func(d *disk.Disk) error { return d.Append("no", nil) },
		func(d *disk.Disk) error { return d.Append("a", make([]byte, 11)) },
		func(d *disk.Disk) error { return d.Cut("no", 0) },
		func(d *disk.Disk) error { return d.Cut("a", -1) },
		func(d *disk.Disk) error { return d.Sync("no") },
		func(d *disk.Disk) error { return d.Rename("no", "b") },
		func(d *disk.Disk) error { return d.Rename("a", "") },
		func(d *disk.Disk) error { return d.Remove("no") },
	}
}

// crashed checks what a copy of the disk is behind a crash with these picks.
func crashed(t *testing.T, d *disk.Disk, want string, picks ...int) {
	t.Helper()
	c := d.Clone()
	c.Crash(picks...)
	if got := told(t, c); got != want {
		t.Errorf("%v: %q, not %q", picks, got, want)
	}
	c.Crash(7, 7, 7)
	if got := told(t, c); got != want {
		t.Errorf("%v, and once more: %q, not %q", picks, got, want)
	}
}

func TestSync(t *testing.T) {
	d := made(t, 50, "a", "abc", "b", "12")
	good(t, d.Sync("a"))
	is(t, d, "a/3=abc b/0=12")
	good(t, d.Append("a", []byte("de")))
	is(t, d, "a/3=abcde b/0=12")
	for _, name := range append(wrongNames(), "c") {
		refused(t, d, api.ErrNone, func() error { return d.Sync(name) })
	}
	crashed(t, d, "a/3=abc b/0=", 2)
	crashed(t, d, "")
	good(t, d.Sync("a"), d.Sync("a"), d.Create("empty"), d.Sync("empty"))
	is(t, d, "a/5=abcde b/0=12 empty/0=")
	crashed(t, d, "a/5=abcde b/0=", 2)
	if d.Calls() != 10 {
		t.Error(d.Calls())
	}
}

func TestSyncDir(t *testing.T) {
	d := made(t, 50)
	good(t, d.SyncDir(), d.SyncDir())
	file(t, d, "a", "abc")
	crashed(t, d, "")
	good(t, d.SyncDir())
	crashed(t, d, "a/0=")
	is(t, d, "a/0=abc")
	good(t, d.Sync("a"), d.Rename("a", "b"))
	crashed(t, d, "a/3=abc")
	good(t, d.SyncDir())
	crashed(t, d, "b/3=abc")
	good(t, d.Remove("b"))
	crashed(t, d, "b/3=abc")
	good(t, d.SyncDir())
	crashed(t, d, "")
	file(t, d, "b", "x")
	good(t, d.Sync("b"), d.Rename("b", "c"), d.SyncDir(), d.Rename("c", "c"))
	crashed(t, d, "c/1=x", 1)
	crashed(t, d, "c/1=x")
	if d.Calls() != 16 {
		t.Error(d.Calls())
	}
}

// Armed for the n-th call, each kind of call is the one that the power goes in, and the calls ahead of it are counted, whatever they answer.
func TestArm(t *testing.T) {
	for i, last := range slices.Concat(changes(), faults()) {
		for n := 1; n < 5; n++ {
			d := made(t, 10, "a", "123")
			d.Arm(n)
			for k := range n - 1 {
				ahead := []func(*disk.Disk) error{changes()[i%2+1], faults()[(i+k)%len(faults())]}[k%2]
				if err := ahead(d); err == api.ErrCrash || d.Down() {
					t.Error(i, n, k, err)
				}
				d.Len("a")
				d.Read("a", 0, 1)
				d.Synced("a")
				d.List()
				d.Used()
				d.Calls()
				d.Clone()
			}
			list, used, calls := d.List(), d.Used(), d.Calls()
			if err := last(d); err != api.ErrCrash || !d.Down() {
				t.Error(i, n, err, d.Down())
			}
			if !slices.Equal(d.List(), list) || d.Used() != used || d.Calls() != calls {
				t.Error(i, n, d.List(), d.Used(), d.Calls())
			}
		}
	}
}

// A call that the power goes in does nothing, not even what is durable at once.
func TestArmedDoesNothing(t *testing.T) {
	for i, last := range changes() {
		d := made(t, 10, "a", "123")
		good(t, d.SyncDir(), d.Rename("a", "c"), d.Rename("c", "a"), d.Create("z"))
		c := d.Clone()
		d.Arm(1)
		if err := last(d); err != api.ErrCrash {
			t.Error(i, err)
		}
		for k := range 5 {
			x, y := d.Clone(), c.Clone()
			x.Crash(k, k)
			y.Crash(k, k)
			is(t, x, told(t, y))
			if x.Calls() != y.Calls() {
				t.Error(i, k, x.Calls(), y.Calls())
			}
		}
	}
}

func TestArmAnew(t *testing.T) {
	for _, n := range []int{0, -1, math.MinInt, math.MaxInt} {
		d := made(t, 10, "a", "")
		d.Arm(2)
		d.Arm(n)
		for range 10 {
			good(t, d.Sync("a"))
		}
	}
	d := made(t, 10, "a", "")
	d.Arm(1)
	d.Arm(3)
	good(t, d.Sync("a"), d.Sync("a"))
	d.Arm(2)
	good(t, d.Sync("a"))
	if err := d.Sync("a"); err != api.ErrCrash || !d.Down() {
		t.Error(err)
	}
}

func TestDown(t *testing.T) {
	down := func() *disk.Disk {
		d := made(t, 10, "a", "123")
		good(t, d.Sync("a"), d.SyncDir())
		d.Arm(1)
		d.Sync("a")
		return d
	}
	d := down()
	for i, call := range slices.Concat(changes(), faults()) {
		for k := range 2 {
			if err := call(d); err != api.ErrCrash || !d.Down() {
				t.Error(i, k, err)
			}
		}
	}
	for _, name := range append(wrongNames(), "a", "b") {
		for _, n := range []int{-1, 0, 3, 4} {
			if b, err := d.Read(name, n, n); b != nil || err != api.ErrCrash {
				t.Error(name, b, err)
			}
		}
		if n, err := d.Len(name); n != 0 || err != api.ErrCrash {
			t.Error(name, n, err)
		}
		if n, err := d.Synced(name); n != 0 || err != api.ErrCrash {
			t.Error(name, n, err)
		}
	}
	if !slices.Equal(d.List(), []string{"a"}) || d.Used() != 3 || d.Calls() != 4 || !d.Clone().Down() {
		t.Error(d.List(), d.Used(), d.Calls())
	}
	d.Crash()
	is(t, d, "a/3=123")
	if d.Calls() != 4 {
		t.Error(d.Calls())
	}
	for _, n := range []int{-1, 0, 1, 2, 100} { // armed while it is gone: the power doesn't come back by it, and a crash forgets it
		d := down()
		d.Arm(n)
		for range 3 {
			if err := d.SyncDir(); err != api.ErrCrash || !d.Down() {
				t.Error(n, err)
			}
		}
		d.Crash()
		for range 200 {
			good(t, d.SyncDir())
		}
	}
}

func TestCrashDisarms(t *testing.T) {
	d := made(t, 10, "a", "123")
	d.Arm(2)
	good(t, d.SyncDir())
	d.Crash()
	if d.Down() {
		t.Error("down")
	}
	good(t, d.SyncDir(), d.SyncDir())
}

// The first pick: how many of the moves are kept, round their number and 1.
func TestCrashMoves(t *testing.T) {
	d := made(t, 50, "a", "A", "b", "B")
	good(t, d.Sync("a"), d.Sync("b"), d.SyncDir())
	good(t, d.Create("c"), d.Rename("a", "d"), d.Rename("d", "d"), d.Rename("d", "b"), d.Remove("c"), d.Create("a"), d.Cut("a", 0))
	d.Create("a")
	d.Create("A")
	d.Rename("no", "a")
	d.Rename("b", "A")
	d.Remove("no")
	states := []string{
		"a/1=A b/1=B",
		"a/1=A b/1=B c/0=",
		"b/1=B c/0= d/1=A",
		"b/1=B c/0= d/1=A",
		"b/1=A c/0=",
		"b/1=A",
		"a/0= b/1=A",
	}
	crashed(t, d, states[0])
	for round := -3; round <= 3; round++ {
		for i, want := range states {
			crashed(t, d, want, i+round*len(states))
			crashed(t, d, want, i+round*len(states), 5, 6, 7, 8, 9)
		}
	}
	for _, n := range []int{math.MinInt, math.MinInt + 1, math.MaxInt, math.MaxInt - 1} {
		crashed(t, d, states[(n%7+7)%7], n)
	}
}

// The next picks: how many of each file's bytes are kept, in the order in which the files were created, not in that of their names.
func TestCrashBytes(t *testing.T) {
	d := made(t, 50, "c", "", "b", "123", "a", "xyz", "d", "0")
	good(t, d.Sync("a"), d.Append("a", []byte("uv")), d.Rename("d", "aa"), d.SyncDir())
	for round := -2; round <= 2; round++ {
		for kept := range 4 {
			b := fmt.Sprintf("b/%d=%s c/0=", kept, "123"[:kept])
			crashed(t, d, "a/3=xyz aa/0= "+b, 0, 9, kept+round*4)
			crashed(t, d, "a/4=xyzu aa/0= "+b, round, 1, kept+round*4, 1+round*3)
			crashed(t, d, "a/5=xyzuv aa/1=0 "+b, round, round, kept+round*4, 2+round*3, 1+round*2)
			crashed(t, d, "a/5=xyzuv aa/1=0 "+b, round, round, kept+round*4, 2+round*3, 1+round*2, 1, 1, 1)
		}
	}
	crashed(t, d, "a/3=xyz aa/0= b/0= c/0=")
	crashed(t, d, "a/3=xyz aa/0= b/0= c/0=", 0, 0, math.MinInt, 0, math.MinInt)
	crashed(t, d, "a/4=xyzu aa/1=0 b/3=123 c/0=", 0, 0, math.MaxInt, math.MaxInt, math.MaxInt)
}

// Picks are for the files that have a name then: not for one whose Create is not kept, but for one whose Remove is not.
func TestCrashPicksOfThen(t *testing.T) {
	d := made(t, 50, "a", "12", "b", "34")
	good(t, d.SyncDir(), d.Rename("b", "a"))
	file(t, d, "c", "56")
	good(t, d.Remove("c"))
	crashed(t, d, "a/1=1 b/2=34", 0, 1, 2, 1)
	crashed(t, d, "a/1=3", 1, 1, 2)
	crashed(t, d, "a/1=3 c/2=56", 2, 1, 2)
	crashed(t, d, "a/2=34", 3, 2, 2)
}

// What is synced under a synced name is there, whatever happened to the name since.
func TestSyncedStays(t *testing.T) {
	d := made(t, 50, "a", "old")
	good(t, d.Sync("a"), d.SyncDir(), d.Append("a", []byte("er")))
	crashed(t, d, "a/3=old")
	crashed(t, d, "a/4=olde", 0, 1)
	good(t, d.Remove("a"))
	file(t, d, "a", "new")
	good(t, d.Sync("a"))
	crashed(t, d, "a/3=old")
	crashed(t, d, "a/5=older", 0, 2)
	crashed(t, d, "", 1)
	crashed(t, d, "a/3=new", 2)
	good(t, d.SyncDir())
	crashed(t, d, "a/3=new")
	crashed(t, d, "a/3=new", 1, 1)
	file(t, d, "b", "other")
	good(t, d.Sync("b"), d.Rename("b", "a"), d.Rename("a", "z"), d.Remove("z"))
	crashed(t, d, "a/3=new")
	crashed(t, d, "a/3=new b/5=other", 1)
	crashed(t, d, "a/5=other", 2)
	crashed(t, d, "z/5=other", 3)
	crashed(t, d, "", 4)
	good(t, d.SyncDir())
	crashed(t, d, "")
	crashed(t, d, "", 3, 3)
}

// Bytes that a cut took are not there again, not even if its file comes back.
func TestCutIsDurable(t *testing.T) {
	d := made(t, 50, "a", "abcdef")
	good(t, d.Sync("a"), d.SyncDir(), d.Cut("a", 2), d.Append("a", []byte("XY")), d.Remove("a"))
	crashed(t, d, "a/2=ab")
	crashed(t, d, "a/4=abXY", 0, 2)
	d = made(t, 50, "a", "abcdef")
	good(t, d.SyncDir(), d.Cut("a", 6))
	crashed(t, d, "a/6=abcdef")
}

// What a crash brought back may be more than there is room for: then not even no bytes are taken, until there is room again.
func TestCrashOverRoom(t *testing.T) {
	d := made(t, 4, "a", "1234")
	good(t, d.Sync("a"), d.Create("b"), d.SyncDir(), d.Remove("a"), d.Append("b", []byte("5678")), d.Sync("b"))
	d.Crash()
	is(t, d, "a/4=1234 b/4=5678")
	refused(t, d, api.ErrFull, func() error { return d.Append("a", nil) })
	good(t, d.Cut("a", 1))
	refused(t, d, api.ErrFull, func() error { return d.Append("b", nil) })
	good(t, d.Cut("b", 3), d.Append("b", nil))
	refused(t, d, api.ErrFull, func() error { return d.Append("b", []byte("9")) })
}

// Behind a crash the disk goes on as before.
func TestCrashGoesOn(t *testing.T) {
	d := made(t, 20, "a", "1234", "b", "5")
	d.Arm(1)
	d.SyncDir()
	d.Crash(1, 2)
	is(t, d, "a/2=12")
	if d.Calls() != 4 {
		t.Error(d.Calls())
	}
	refused(t, d, api.ErrThere, func() error { return d.Create("a") })
	refused(t, d, api.ErrNone, func() error { return d.Sync("b") })
	file(t, d, "b", "678")
	good(t, d.Append("a", []byte("9")))
	is(t, d, "a/2=129 b/0=678")
	crashed(t, d, "a/3=129", 0, 1)
	crashed(t, d, "a/3=129 b/2=67", 1, 1, 2)
}

func TestClone(t *testing.T) {
	begin := func() *disk.Disk {
		d := made(t, 20, "a", "123", "b", "45")
		good(t, d.Sync("a"), d.SyncDir(), d.Append("a", []byte("6")), d.Rename("b", "c"), d.Rename("c", "a"))
		file(t, d, "n", "789")
		good(t, d.Remove("n"))
		return d
	}
	spoil := func(d *disk.Disk) {
		good(t, d.Cut("a", 1), d.Append("a", []byte("ZZ")), d.Create("y"), d.Rename("a", "x"), d.SyncDir(), d.Remove("x"))
		d.Arm(1)
		d.SyncDir()
		d.Crash(1)
	}
	check := func(d *disk.Disk) {
		t.Helper()
		if d.Down() || d.Calls() != 12 {
			t.Error(d.Down(), d.Calls())
		}
		is(t, d, "a/0=45")
		crashed(t, d, "a/3=123 b/0=")
		crashed(t, d, "a/4=1236 b/1=4", 0, 1, 1)
		crashed(t, d, "a/3=123 c/0=", 1)
		crashed(t, d, "a/2=45", 2, 2)
		crashed(t, d, "a/2=45 n/2=78", 3, 2, 2)
		crashed(t, d, "a/1=4", 4, 1)
		good(t, d.Append("a", []byte("+")), d.Sync("a"), d.Append("a", []byte("?")))
		is(t, d, "a/3=45+?")
		crashed(t, d, "a/3=45+", 4)
		crashed(t, d, "a/3=123 b/3=45+")
		good(t, d.Append("a", make([]byte, 16)))
		refused(t, d, api.ErrFull, func() error { return d.Append("a", []byte("x")) })
	}
	d := begin()
	c := d.Clone()
	spoil(d)
	check(c)
	d = begin()
	c = d.Clone()
	spoil(c)
	check(d)
}

// Both disks append behind the same bytes, and neither sees the other's.
func TestCloneBytes(t *testing.T) {
	d := made(t, 1000, "a", strings.Repeat("x", 33))
	c := d.Clone()
	good(t, d.Append("a", []byte("d")), c.Append("a", []byte("c")), d.Append("a", []byte("d")))
	is(t, d, "a/0="+strings.Repeat("x", 33)+"dd")
	is(t, c, "a/0="+strings.Repeat("x", 33)+"c")
	e := c.Clone()
	good(t, c.Cut("a", 0), c.Append("a", []byte("yyy")))
	is(t, e, "a/0="+strings.Repeat("x", 33)+"c")
}

func TestCloneArmed(t *testing.T) {
	d := made(t, 10, "a", "")
	d.Arm(2)
	c := d.Clone()
	good(t, d.SyncDir())
	if d.SyncDir() != api.ErrCrash || c.Down() {
		t.Error("the copy's power")
	}
	good(t, c.SyncDir())
	if c.SyncDir() != api.ErrCrash {
		t.Error("the copy is armed")
	}
	e := d.Clone()
	d.Crash()
	if !e.Down() || e.SyncDir() != api.ErrCrash {
		t.Error("down")
	}
	e.Arm(0)
	e.Crash()
	good(t, d.Create("b"), e.Create("b"))
}
