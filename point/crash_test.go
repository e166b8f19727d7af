package point_test

import (
	"fmt"
	"math/rand"
	"slices"
	"strings"
	"testing"

	"cordwood/api"
	"cordwood/disk"
	"cordwood/point"
)

// answer is what Read answers.
func answer(d *disk.Disk, name string) string {
	b, err := point.Read(d, name)
	return fmt.Sprintf("%q %v", b, err)
}

// P8.2

// The power goes in each call of a Write, of a name that was there and of one that was not; all, none and some of what was not synced is left.
func TestCrashInEachCall(t *testing.T) {
	for i, ground := range grounds(t) {
		for _, s := range []string{"", "younger", strings.Repeat("long ", 20)} {
			ahead, after := answer(ground, "p"), fmt.Sprintf("%q %v", s, nil)
			got := map[string]int{}
			for n := 1; n <= 7; n++ {
				d := ground.Clone()
				d.Arm(n)
				err := point.Write(d, "p", []byte(s))
				for pick := range 9 * 5 * 5 {
					c := d.Clone()
					some := pick % 5
					c.Crash(pick/25-1, some-1, pick/5%5-1, some-1)
					left := answer(c, "p")
					got[left]++
					if left != after && (left != ahead || err == nil) {
						t.Errorf("%d, %d, %d: %s", i, n, pick, left)
					}
					kept(t, "another", c, "a", "ahead")
					if again := point.Write(c, "p", []byte("again")); again != nil {
						t.Error(i, n, pick, again)
					}
					kept(t, "again", c, "p", "again", "a", "ahead")
				}
			}
			if got[ahead] == 0 || got[after] == 0 || len(got) != 2 {
				t.Error(i, got)
			}
		}
	}
}

// The last call is what makes it so, whatever is left: ahead of it all names have to be left for b, and one may be lost for what was.
func TestCrashInSyncDir(t *testing.T) {
	d := newDisk(t, 1000)
	keeps(t, d, "p", "elder")
	d.Arm(5)
	if err := point.Write(d, "p", []byte("younger")); err != api.ErrCrash {
		t.Fatal(err)
	}
	for moves, want := range []string{"elder", "elder", "younger"} {
		c := d.Clone()
		c.Crash(moves)
		kept(t, fmt.Sprint(moves), c, "p", want)
	}
}

func TestCrashBehindWrite(t *testing.T) {
	for i, ground := range grounds(t) {
		d := ground
		keeps(t, d, "p", "younger")
		for moves := -2; moves < 3; moves++ {
			for pick := -2; pick < 3; pick++ {
				c := d.Clone()
				c.Crash(moves, pick, pick, pick)
				kept(t, fmt.Sprint(i, moves, pick), c, "p", "younger", "a", "ahead")
				if !slices.Equal(c.List(), []string{"a", "p"}) {
					t.Error(i, c.List())
				}
			}
		}
	}
}

// A Write that found no room leaves what was ahead, behind a crash, too.
func TestCrashBehindFull(t *testing.T) {
	for i, ground := range grounds(t) {
		ahead := answer(ground, "p")
		if err := point.Write(ground, "p", make([]byte, 1000)); err != api.ErrFull {
			t.Fatal(err)
		}
		for moves := range 4 {
			for pick := range 4 {
				c := ground.Clone()
				c.Crash(moves, pick, pick, pick)
				if left := answer(c, "p"); left != ahead {
					t.Error(i, left)
				}
				kept(t, "another", c, "a", "ahead")
				keeps(t, c, "p", "small")
			}
		}
	}
}

// Several names, through many crashes, held against plain texts.
func TestModel(t *testing.T) {
	r := rand.New(rand.NewSource(8))
	got := map[string]int{}
	for range 200 {
		d := newDisk(t, 300)
		has := map[string]string{}
		for _, name := range []string{"p", "q", "p.n", "new"} {
			has[name] = answer(d, name)
		}
		for range 30 {
			name := []string{"p", "q", "p.n", "new"}[r.Intn(4)]
			s := strings.Repeat(string(rune('a'+r.Intn(26))), r.Intn(100))
			if r.Intn(3) == 0 {
				d.Arm(r.Intn(7))
			}
			ahead, after := has[name], fmt.Sprintf("%q %v", s, nil)
			err := point.Write(d, name, []byte(s))
			switch {
			case err == nil:
				has[name] = after
			case err != api.ErrFull && err != api.ErrCrash:
				t.Fatal(err)
			}
			if err == api.ErrCrash || r.Intn(5) == 0 {
				d.Crash(r.Intn(6), r.Intn(200)*r.Intn(2), r.Intn(200), r.Intn(200)-100)
			}
			if left := answer(d, name); err == api.ErrCrash && (left == ahead || left == after) {
				has[name] = left
			}
			got[fmt.Sprint(err, has[name] == after)]++
			for name, want := range has {
				if left := answer(d, name); left != want {
					t.Fatalf("%s: %s, not %s", name, left, want)
				}
			}
		}
	}
	for _, what := range []string{fmt.Sprint(nil, true), fmt.Sprint(api.ErrFull, false), fmt.Sprint(api.ErrCrash, true), fmt.Sprint(api.ErrCrash, false)} {
		if got[what] == 0 {
			t.Error("never met: ", what)
		}
	}
}
