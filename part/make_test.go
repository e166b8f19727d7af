package part_test

import (
	"fmt"
	"math"
	"slices"
	"strings"
	"testing"

	"cordwood/api"
	"cordwood/call"
	"cordwood/crc"
	"cordwood/part"
	"cordwood/store"
)

const maxEach = 1 << 20

// text is n bytes, of which no two pieces nearby are the same.
func text(n int) []byte {
	b := make([]byte, n)
	for i := range b {
		b[i] = byte(i*7 + i/256*3 + i/65536 + 1)
	}
	return b
}

// plan is the plan of b under the name x.
func plan(t *testing.T, b []byte, each int) part.Plan {
	t.Helper()
	p, err := part.Make("x", b, each)
	if err != nil {
		t.Fatal(len(b), each, err)
	}
	return p
}

// The chapter's example.
func TestMakeExample(t *testing.T) {
	p, err := part.Make("a", []byte("12345"), 2)
	want := part.Plan{Name: "a", Size: 5, Sum: crc.Of([]byte("12345")), Each: 2, Parts: 3}
	if p != want || err != nil {
		t.Errorf("%+v %v", p, err)
	}
	for n, want := range []string{"0 2 true", "2 4 true", "4 5 true", "0 0 false"} {
		if got := fmt.Sprint(p.Range(n)); got != want {
			t.Errorf("%d: %s, not %s", n, got, want)
		}
	}
}

// How many parts there are: none of nothing, and the last one is the rest.
func TestMakeParts(t *testing.T) {
	for _, x := range []struct{ size, each, want int }{
		{0, 1, 0}, {0, 2, 0}, {0, maxEach, 0},
		{1, 1, 1}, {1, 2, 1}, {1, maxEach, 1},
		{6, 7, 1}, {7, 7, 1}, {8, 7, 2},
		{13, 7, 2}, {14, 7, 2}, {15, 7, 3},
		{2, 1, 2}, {3, 1, 3},
		{maxEach - 1, maxEach, 1}, {maxEach, maxEach, 1}, {maxEach + 1, maxEach, 2},
		{maxEach, maxEach - 1, 2},
		{api.MaxParts - 1, 1, api.MaxParts - 1}, {api.MaxParts, 1, api.MaxParts},
		{api.MaxParts*5 - 5, 5, api.MaxParts - 1}, {api.MaxParts*5 - 4, 5, api.MaxParts}, {api.MaxParts * 5, 5, api.MaxParts},
	} {
		b := text(x.size)
		p, err := part.Make("x", b, x.each)
		want := part.Plan{Name: "x", Size: x.size, Sum: crc.Of(b), Each: x.each, Parts: x.want}
		if p != want || err != nil {
			t.Errorf("%+v: %+v %v", x, p, err)
		}
	}
}

// The sum is that of all the bytes, and of no others.
func TestMakeSum(t *testing.T) {
	if p := plan(t, []byte("123456789"), 4); p.Sum != 0xe3069283 {
		t.Errorf("%#x", p.Sum)
	}
	all := text(40)
	for n := range len(all) {
		var sum uint32
		for i := range n {
			sum = crc.More(sum, all[i:i+1])
		}
		if p := plan(t, all[:n], 7); p.Sum != sum {
			t.Error(n, p.Sum, sum)
		}
	}
	if p := plan(t, nil, 1); p.Sum != 0 {
		t.Error(p.Sum)
	}
}

// Which names may be.
func TestMakeNames(t *testing.T) {
	const within = "abcdefghijklmnopqrstuvwxyz0123456789.-_"
	for c := range 256 {
		one := string([]byte{byte(c)})
		for _, name := range []string{one, "a" + one, one + "a", strings.Repeat("a", 40) + one + "b"} {
			p, err := part.Make(name, []byte("12345"), 2)
			if strings.Contains(within, one) {
				if p.Name != name || p.Parts != 3 || err != nil {
					t.Errorf("%q: %+v %v", name, p, err)
				}
			} else if p != (part.Plan{}) || err != api.ErrName {
				t.Errorf("%q: %+v %v", name, p, err)
			}
		}
	}
	for n := range 3 * api.MaxName {
		name := strings.Repeat("n", n)
		p, err := part.Make(name, nil, 1)
		if n >= 1 && n <= api.MaxName {
			if p.Name != name || err != nil {
				t.Errorf("%d: %+v %v", n, p, err)
			}
		} else if p != (part.Plan{}) || err != api.ErrName {
			t.Errorf("%d: %+v %v", n, p, err)
		}
	}
}

// What is refused, and by which error, where there could be several.
func TestMakeRefused(t *testing.T) {
	for _, x := range []struct {
		name       string
		size, each int
		want       error
	}{
		{"x", 5, 0, api.ErrRange},
		{"x", 5, -1, api.ErrRange},
		{"x", 5, math.MinInt, api.ErrRange},
		{"x", 5, maxEach + 1, api.ErrRange},
		{"x", 5, math.MaxInt, api.ErrRange},
		{"x", 0, 0, api.ErrRange},
		{"x", 0, -1, api.ErrRange},
		{"x", 0, maxEach + 1, api.ErrRange},
		{"x", api.MaxParts + 1, 1, api.ErrMany},
		{"x", 2*api.MaxParts + 1, 2, api.ErrMany},
		{"x", maxEach, 1, api.ErrMany},
		{"x", maxEach + 1, maxEach / api.MaxParts, api.ErrMany},
		{"X", 5, 2, api.ErrName},
		{"", 5, 2, api.ErrName},
		{"X", 5, 0, api.ErrName},
		{"", 5, maxEach + 1, api.ErrName},
		{"X", api.MaxParts + 1, 1, api.ErrName},
		{"x", api.MaxParts + 1, 0, api.ErrRange},
		{"x", api.MaxParts + 1, -1, api.ErrRange},
		{"x", maxEach + 2, maxEach + 1, api.ErrRange},
		{"", api.MaxParts + 1, 0, api.ErrName},
	} {
		if p, err := part.Make(x.name, text(x.size), x.each); p != (part.Plan{}) || err != x.want {
			t.Errorf("%+v: %+v %v", x, p, err)
		}
	}
}

// The ranges lie one behind the other, and are the whole: held against pieces that are cut by hand.
func TestRangesAreTheWhole(t *testing.T) {
	for size := range 300 {
		b := text(size)
		for _, each := range []int{1, 2, 3, 4, 5, 7, 16, 99, 255, 256, 257, 298, 299, 300, maxEach} {
			pieces := slices.Collect(slices.Chunk(b, each))
			p, err := part.Make("x", b, each)
			if len(pieces) > api.MaxParts {
				if p != (part.Plan{}) || err != api.ErrMany {
					t.Errorf("%d in %d: %+v %v", size, each, p, err)
				}
				continue
			}
			if p.Parts != len(pieces) || err != nil {
				t.Errorf("%d in %d: %+v %v", size, each, p, err)
			}
			end := 0
			for n, piece := range pieces {
				from, to, is := p.Range(n)
				if from != end || !is || to > size || string(b[from:to]) != string(piece) {
					t.Fatal(size, each, n, from, to, is)
				}
				end = to
			}
			if end != size {
				t.Error(size, each, end)
			}
		}
	}
}

// No part is below 0, at Parts or beyond.
func TestRangeOfNone(t *testing.T) {
	for _, x := range []struct{ size, each int }{{0, 1}, {0, maxEach}, {1, 1}, {5, 2}, {6, 2}, {5, 5}, {5, 6}, {api.MaxParts, 1}} {
		p := plan(t, text(x.size), x.each)
		for _, n := range []int{-1, -2, -p.Parts, math.MinInt, p.Parts, p.Parts + 1, 2 * p.Parts, api.MaxParts, math.MaxInt32, math.MaxInt} {
			if n >= 0 && n < p.Parts {
				continue
			}
			if from, to, is := p.Range(n); from != 0 || to != 0 || is {
				t.Error(x, n, from, to, is)
			}
		}
		if p.Parts == 0 {
			continue
		}
		if from, to, is := p.Range(p.Parts - 1); from != (p.Parts-1)*x.each || to != x.size || !is {
			t.Error(x, from, to, is)
		}
	}
}

// The greatest plan that there may be; nobody needs its bytes for that.
func TestRangeOfTheGreatest(t *testing.T) {
	const most = api.MaxParts * maxEach
	p := part.Plan{Name: "x", Size: most, Each: maxEach, Parts: api.MaxParts}
	if from, to, is := p.Range(api.MaxParts - 1); from != most-maxEach || to != most || !is {
		t.Error(from, to, is)
	}
	p.Size--
	if from, to, is := p.Range(api.MaxParts - 1); from != most-maxEach || to != most-1 || !is {
		t.Error(from, to, is)
	}
	for _, parts := range []int{api.MaxParts, api.MaxParts + 1} {
		none(t, part.Plan{Name: "x", Size: most + 1, Each: maxEach, Parts: parts})
	}
}

// none checks that a plan that isn't as Make has it has no part, and that no Step is done of it.
func none(t *testing.T, p part.Plan) {
	t.Helper()
	for _, n := range []int{-1, 0, 1, p.Parts - 1, p.Parts, math.MinInt, math.MaxInt} {
		if from, to, is := p.Range(n); from != 0 || to != 0 || is {
			t.Errorf("%+v: %d: %d %d %t", p, n, from, to, is)
		}
	}
	var b []byte
	if p.Size >= 0 && p.Size <= 2*maxEach {
		b = text(p.Size)
	}
	s := store.New()
	c, err := call.New(s, 1)
	if err != nil {
		t.Fatal(err)
	}
	for _, id := range []int{0, 1, -1} {
		for _, done := range []int{0, 1, p.Parts} {
			got := fmt.Sprint(part.Step(c, p, b, id, done))
			if want := fmt.Sprint(id, done, false, api.ErrRange); got != want || c.Asked() != 0 || s.Calls() != 0 {
				t.Errorf("%+v: %d %d: %s, not %s", p, id, done, got, want)
			}
		}
	}
}

// Plans whose Each and Parts are not as Make has them of Size.
func TestOtherPlans(t *testing.T) {
	none(t, part.Plan{})
	none(t, part.Plan{Name: "x", Parts: 1})
	for _, x := range []struct{ size, each, parts int }{
		{5, 2, 2}, {5, 2, 4}, {5, 2, 0}, {5, 2, 1}, {5, 2, -1}, {5, 2, -3}, {5, 2, math.MinInt}, {5, 2, math.MaxInt},
		{6, 2, 4}, {6, 2, 2}, {4, 2, 3}, {1, 1, 0}, {1, 1, 2}, {5, 5, 2}, {5, 6, 0}, {0, 2, 1}, {0, 1, -1},
		{5, 0, 0}, {5, 0, 1}, {5, 0, 3}, {0, 0, 0}, {0, -1, 0}, {5, -1, -5}, {5, -2, -2}, {5, -2, 3}, {5, math.MinInt, 0}, {5, math.MinInt, 1},
		{5, maxEach + 1, 1}, {0, maxEach + 1, 0}, {maxEach + 1, maxEach + 1, 1}, {5, math.MaxInt, 1},
		{api.MaxParts + 1, 1, api.MaxParts + 1}, {api.MaxParts + 1, 1, api.MaxParts}, {api.MaxParts + 1, 1, 0}, {2*api.MaxParts + 1, 2, api.MaxParts + 1},
		{-1, 1, 0}, {-1, 2, 0}, {-1, 1, -1}, {-1, 1, 1}, {-4, 2, -2}, {math.MinInt, 1, 0}, {math.MinInt, 1, math.MinInt}, {-1, -1, 1}, {math.MinInt, -1, 1},
		{math.MaxInt, 1, math.MaxInt}, {math.MaxInt, 2, math.MinInt}, {math.MaxInt, maxEach, 0}, {math.MaxInt, maxEach, math.MaxInt/maxEach + 1}, {math.MaxInt, math.MaxInt, 1}, {math.MaxInt, 2, 0}, {math.MaxInt - 1, 3, 0},
	} {
		none(t, part.Plan{Name: "x", Size: x.size, Each: x.each, Parts: x.parts})
	}
}

// Every plan of small numbers: just as Make has it, or none.
func TestPlansOfSmallNumbers(t *testing.T) {
	for size := -2; size < 9; size++ {
		for each := -2; each < 9; each++ {
			for parts := -2; parts < 11; parts++ {
				p := part.Plan{Name: "x", Size: size, Each: each, Parts: parts}
				if size >= 0 && each >= 1 && plan(t, text(size), each).Parts == parts {
					if _, _, is := p.Range(0); is != (size > 0) {
						t.Errorf("%+v", p)
					}
					continue
				}
				none(t, p)
			}
		}
	}
}
