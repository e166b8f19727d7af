package call_test

import (
	"fmt"
	"math"
	"slices"
	"strings"
	"testing"

	"cordwood/api"
	"cordwood/call"
	"cordwood/crc"
)

// What takes away is no error behind ErrStores, whether it was done by then or not, and whether there was anything.
func TestTakenAway(t *testing.T) {
	for _, x := range []struct {
		name   string
		do     func(*call.Client) error
		behind string
	}{
		{"Delete", func(c *call.Client) error { return c.Delete("a") }, "empty= " + parted + bare},
		{"Delete of none", func(c *call.Client) error { return c.Delete("no") }, atFirst},
		{"Delete of no name", func(c *call.Client) error { return c.Delete("A") }, atFirst},
		{"Abort", func(c *call.Client) error { return c.Abort(2) }, objects + parted},
		{"Abort of none", func(c *call.Client) error { return c.Abort(3) }, atFirst},
		{"Abort of 0", func(c *call.Client) error { return c.Abort(0) }, atFirst},
		{"Abort below", func(c *call.Client) error { return c.Abort(math.MinInt) }, atFirst},
	} {
		for tries := 2; tries <= api.MaxTries; tries++ {
			for many := 1; many < tries; many++ {
				for _, row := range rows(many) {
					s, c := begun(t, tries, row...)
					ahead := s.Calls()
					if err := x.do(c); err != nil {
						t.Error(x.name, tries, row, err)
					}
					asked(t, s, c, ahead, many+1)
					is(t, s, x.behind)
				}
			}
		}
	}
}

// What is taken away already is none, at the first answer.
func TestTakenAwayTwice(t *testing.T) {
	s, c := begun(t, 3, l)
	good(t, c.Delete("a"))
	if err := c.Delete("a"); err != api.ErrNone {
		t.Error(err)
	}
	s.Script(l, f)
	good(t, c.Abort(1))
	if err := c.Abort(1); err != api.ErrNone {
		t.Error(err)
	}
	is(t, s, "empty= "+bare)
	if c.Asked() != 2+1+3+1 {
		t.Error(c.Asked())
	}
}

// An ErrStore of a call ahead, of this client or of another one, counts for nothing: what is none, is.
func TestDoubtOfThisCallAlone(t *testing.T) {
	for _, x := range []func(*call.Client) error{
		func(c *call.Client) error { return c.Delete("no") },
		func(c *call.Client) error { return c.Abort(3) },
		func(c *call.Client) error { return c.Complete(3, 0, "empty", 0, 0) },
	} {
		for _, script := range [][]int{{f, f, f}, {l, l, l}, {f}, {l, f}} {
			for _, ahead := range everyCall() {
				s, c := begun(t, 3, script...)
				ahead.do(c)
				s.Delete("no")
				s.Abort(3)
				been := c.Asked()
				if err := x(c); err != api.ErrNone || c.Asked() != been+1 {
					t.Error(ahead.name, script, err, c.Asked()-been)
				}
			}
			s, c := begun(t, 3, script...)
			client(t, s, 3).Delete("a")
			if err := x(c); err != api.ErrNone || c.Asked() != 1 {
				t.Error(script, err, c.Asked())
			}
		}
	}
}

// The call itself, not answered at all, is asked for once more.
func TestDoubtIsOver(t *testing.T) {
	s, c := begun(t, 2, l, f, l, f, l, f)
	for _, do := range []func(*call.Client) error{
		func(c *call.Client) error { return c.Delete("a") },
		func(c *call.Client) error { return c.Abort(2) },
		complete,
	} {
		if err := do(c); err != api.ErrStore {
			t.Error(err)
		}
	}
	is(t, s, "empty= up=PPQ ")
	for _, do := range []func(*call.Client) error{
		func(c *call.Client) error { return c.Delete("a") },
		func(c *call.Client) error { return c.Abort(2) },
		complete,
	} {
		if err := do(c); err != api.ErrNone {
			t.Error(err)
		}
	}
	if c.Asked() != 9 {
		t.Error(c.Asked())
	}
}

// What each lost Start began stays; the last one is told.
func TestStart(t *testing.T) {
	for tries := 1; tries <= api.MaxTries; tries++ {
		for many := 0; many < tries; many++ {
			for _, row := range rows(many) {
				s, c := begun(t, tries, row...)
				ahead := s.Calls()
				lost := count(row, l)
				if id, err := c.Start("st"); id != 3+lost || err != nil {
					t.Error(tries, row, id, err)
				}
				asked(t, s, c, ahead, many+1)
				want := atFirst
				for i := range lost + 1 {
					want += fmt.Sprint(3+i, ":st[] ")
				}
				is(t, s, want)
			}
		}
	}
}

// The upload that is told is the one that is gone on with; the others are still none's, until they are aborted.
func TestStartGoesOn(t *testing.T) {
	s, c := begun(t, 3, l, l)
	id, err := c.Start("st")
	good(t, err, c.Part(id, 0, []byte("x")), c.Complete(id, 1, "st", 1, crc.Of([]byte("x"))))
	is(t, s, "a=hello empty= st=x "+parted+bare+"3:st[] 4:st[] ")
	good(t, c.Abort(3), c.Abort(4))
	is(t, s, "a=hello empty= st=x "+parted+bare)
}

// That which is not told begins all the same, and takes an id.
func TestStartNotAnswered(t *testing.T) {
	s, c := begun(t, 2, l, l, f, f)
	for range 2 {
		if id, err := c.Start("st"); id != 0 || err != api.ErrStore {
			t.Error(id, err)
		}
	}
	is(t, s, atFirst+"3:st[] 4:st[] ")
	if id, err := c.Start("on"); id != 5 || err != nil {
		t.Error(id, err)
	}
	if c.Asked() != 5 {
		t.Error(c.Asked())
	}
}

func sumOf(text string) uint32 { return crc.Of([]byte(text)) }

// Complete that was done though it was not said: the object is known again by its size and sum.
func TestCompleteKnownAgain(t *testing.T) {
	sum := sumOf("PPQ")
	for i, x := range []struct {
		name string
		size int
		sum  uint32
		want error
	}{
		{"up", 3, sum, nil},
		{"up", 2, sum, api.ErrNone},
		{"up", 4, sum, api.ErrNone},
		{"up", 0, sum, api.ErrNone},
		{"up", -3, sum, api.ErrNone},
		{"up", 3 + 1<<32, sum, api.ErrNone},
		{"up", math.MinInt, sum, api.ErrNone},
		{"up", math.MaxInt, sum, api.ErrNone},
		{"up", 3, sum + 1, api.ErrNone},
		{"up", 3, sum ^ 1<<31, api.ErrNone},
		{"up", 3, ^sum, api.ErrNone},
		{"up", 3, 0, api.ErrNone},
		{"up", 0, 0, api.ErrNone},
		{"a", 3, sum, api.ErrNone},
		{"a", 5, sumOf("hello"), nil}, // whatever was completed, the name is asked for
		{"empty", 0, 0, nil},
		{"empty", 3, sum, api.ErrNone},
		{"no", 3, sum, api.ErrNone},
		{"no", 0, 0, api.ErrNone},
		{"none", 0, 0, api.ErrNone},
		{"", 3, sum, api.ErrNone},
		{"", 0, 0, api.ErrNone},
		{"UP", 3, sum, api.ErrNone},
		{"u", 3, sum, api.ErrNone},
	} {
		for tries := 2; tries <= api.MaxTries; tries++ {
			for many := 1; many < tries; many++ {
				for _, row := range rows(many) {
					s, c := begun(t, tries, row...)
					ahead := s.Calls()
					want, often := x.want, many+2
					if count(row, l) == 0 { // it is done at the last try
						want, often = nil, many+1
					}
					if err := c.Complete(1, 2, x.name, x.size, x.sum); err != want {
						t.Error(i, tries, row, err)
					}
					asked(t, s, c, ahead, often)
					is(t, s, objects+"up=PPQ "+bare)
				}
			}
		}
	}
}

// Where it is told that it is done, nothing is held against the object.
func TestCompleteTold(t *testing.T) {
	for _, script := range [][]int{nil, {f}, {f, f}} {
		for _, name := range []string{"up", "a", "no", ""} {
			s, c := begun(t, 3, script...)
			ahead := s.Calls()
			good(t, c.Complete(1, 2, name, 77, 77))
			asked(t, s, c, ahead, len(script)+1)
			is(t, s, objects+"up=PPQ "+bare)
		}
	}
}

// An upload that was never there is ErrNone at once, whatever lies there; behind an ErrStore it is what lies there that tells.
func TestCompleteOfNone(t *testing.T) {
	for _, id := range []int{3, 0, -1, math.MinInt, math.MaxInt} {
		for _, parts := range []int{0, 1, -1, api.MaxParts + 1, math.MinInt, math.MaxInt} {
			for _, x := range []struct {
				name   string
				size   int
				sum    uint32
				script []int
				want   error
				often  int
			}{
				{"a", 5, sumOf("hello"), nil, api.ErrNone, 1},
				{"a", 5, sumOf("hello"), []int{f}, nil, 3},
				{"a", 5, sumOf("hello"), []int{l}, nil, 3},
				{"a", 5, sumOf("hello"), []int{l, f}, nil, 4},
				{"a", 5, sumOf("hello"), []int{f, f, f}, api.ErrStore, 3},
				{"a", 5, sumOf("hello"), []int{l, l, l}, api.ErrStore, 3},
				{"a", 4, sumOf("hello"), []int{f}, api.ErrNone, 3},
				{"a", 5, sumOf("hell"), []int{f}, api.ErrNone, 3},
				{"no", 0, 0, []int{f}, api.ErrNone, 3},
				{"no", 0, 0, []int{l}, api.ErrNone, 3},
				{"empty", 0, 0, []int{l}, nil, 3},
				{"empty", 0, 0, nil, api.ErrNone, 1},
			} {
				s, c := begun(t, 3, x.script...)
				ahead := s.Calls()
				if err := c.Complete(id, parts, x.name, x.size, x.sum); err != x.want {
					t.Error(id, parts, x.name, x.script, err)
				}
				asked(t, s, c, ahead, x.often)
				is(t, s, atFirst)
			}
		}
	}
}

// The Head within is a call of its own: it has all the tries, and what it isn't answered is no answer, whatever the object.
func TestCompleteHead(t *testing.T) {
	for tries := 2; tries <= api.MaxTries; tries++ {
		for many := 0; many <= tries+1; many++ {
			for _, row := range rows(many) {
				for _, x := range []struct {
					name string
					size int
					sum  uint32
					want error
				}{
					{"up", 3, sumOf("PPQ"), nil},
					{"up", 3, 0, api.ErrNone},
					{"up", 0, 0, api.ErrNone},
					{"no", 3, sumOf("PPQ"), api.ErrNone},
					{"no", 0, 0, api.ErrNone},
				} {
					// As many ErrStores as may be, or just one, come ahead of the ErrNone.
					for _, doubts := range []int{1, tries - 1} {
						script := append(slices.Repeat([]int{l}, doubts), g)
						s, c := begun(t, tries, append(script, row...)...)
						ahead := s.Calls()
						want, often := x.want, doubts+1+many+1
						if many >= tries {
							want, often = api.ErrStore, doubts+1+tries
						}
						if err := c.Complete(1, 2, x.name, x.size, x.sum); err != want {
							t.Error(tries, row, x.name, x.size, doubts, err)
						}
						asked(t, s, c, ahead, often)
						is(t, s, objects+"up=PPQ "+bare)
					}
				}
			}
		}
	}
}

// Whatever else Complete is told behind an ErrStore is told, and no Head is asked for.
func TestCompleteOtherErrors(t *testing.T) {
	for _, parts := range []int{3, -1, api.MaxParts, api.MaxParts + 1, math.MinInt, math.MaxInt} {
		for _, script := range [][]int{nil, {f}, {l}, {l, f}} {
			s, c := begun(t, 3, script...)
			ahead := s.Calls()
			if err := c.Complete(1, parts, "a", 5, sumOf("hello")); err != api.ErrRange {
				t.Error(parts, script, err)
			}
			asked(t, s, c, ahead, len(script)+1)
			is(t, s, atFirst)
		}
	}
}

// As many parts as there may be, and not one more.
func TestCompleteMost(t *testing.T) {
	for _, script := range scripts() {
		s, c := begun(t, 3)
		for n := range api.MaxParts {
			good(t, c.Part(2, n, []byte{'x'}))
		}
		text := strings.Repeat("x", api.MaxParts)
		s.Script(script...)
		if err := c.Complete(2, api.MaxParts+1, "none", len(text), sumOf(text)); err != api.ErrRange {
			t.Error(script, err)
		}
		s.Script(script...)
		good(t, c.Complete(2, api.MaxParts, "none", len(text), sumOf(text)))
		is(t, s, "a=hello empty= none="+text+" "+parted)
	}
}

// Of fewer parts, of none, and over an object that was there ahead.
func TestCompleteOver(t *testing.T) {
	for _, x := range []struct {
		parts int
		text  string
	}{{0, ""}, {1, "PP"}, {2, "PPQ"}} {
		for _, script := range scripts() {
			for _, elder := range []string{"", "PPQ", "elder"} {
				s, c := begun(t, 3)
				good(t, s.Put("up", []byte(elder)))
				s.Script(script...)
				good(t, c.Complete(1, x.parts, "up", len(x.text), sumOf(x.text)))
				is(t, s, objects+"up="+x.text+" "+bare)
			}
		}
	}
}

// One try: an ErrStore is all that is told, whatever was done; no Head is asked for.
func TestOneTry(t *testing.T) {
	for _, x := range changing() {
		for _, outcome := range []int{f, l} {
			s, c := begun(t, 1, outcome)
			ahead := s.Calls()
			if answer, err := x.do(c); answer != nothing || err != api.ErrStore {
				t.Error(x.name, answer, err)
			}
			asked(t, s, c, ahead, 1)
		}
	}
}
