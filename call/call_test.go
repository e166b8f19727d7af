package call_test

import (
	"fmt"
	"math"
	"slices"
	"strings"
	"testing"

	"cordwood/api"
	"cordwood/call"
	"cordwood/crc"
	"cordwood/store"
)

const (
	g = store.Good
	f = store.Fails
	l = store.Loses
)

// begun is a store with objects, an upload that has parts, and one that has none; and a client of it.
func begun(t *testing.T, tries int, outcomes ...int) (*store.Store, *call.Client) {
	t.Helper()
	s := store.New()
	good(t, s.Put("a", []byte("hello")), s.Put("empty", nil))
	for _, name := range []string{"up", "none"} {
		_, err := s.Start(name)
		good(t, err)
	}
	good(t, s.Part(1, 0, []byte("PP")), s.Part(1, 1, []byte("Q")))
	is(t, s, atFirst)
	s.Script(outcomes...)
	return s, client(t, s, tries)
}

const (
	objects = "a=hello empty= "
	parted  = "1:up[PP,Q] "
	bare    = "2:none[] "
	atFirst = objects + parted + bare
)

func client(t *testing.T, s *store.Store, tries int) *call.Client {
	t.Helper()
	c, err := call.New(s, tries)
	if c == nil || err != nil {
		t.Fatal(tries, c, err)
	}
	return c
}

// good is fatal, if one of the errors is one.
func good(t *testing.T, l ...error) {
	t.Helper()
	for i, err := range l {
		if err != nil {
			t.Fatal(i, err)
		}
	}
}

// told is the objects that a store has, and its uploads, each with its first parts. It asks copies.
func told(t *testing.T, s *store.Store) string {
	t.Helper()
	var text strings.Builder
	for _, name := range s.Names() {
		b, there := s.Bytes(name)
		if !there {
			t.Error(name)
		}
		fmt.Fprintf(&text, "%s=%s ", name, b)
	}
	c := calm(t, s)
	for _, id := range s.Open() {
		fmt.Fprintf(&text, "%d:%s ", id, uploadOf(t, c, id))
	}
	return text.String()
}

// calm is a copy without objects, whose script is over.
func calm(t *testing.T, s *store.Store) *store.Store {
	t.Helper()
	c := s.Clone()
	for range 50 {
		c.Start("")
	}
	for _, name := range c.Names() {
		good(t, c.Delete(name))
	}
	return c
}

// uploadOf is the upload's name and its first parts: it is completed with one of them more each time.
func uploadOf(t *testing.T, s *store.Store, id int) string {
	t.Helper()
	name, all := "", ""
	var parts []string
	for n := range api.MaxParts + 1 {
		c := s.Clone()
		if c.Complete(id, n) != nil {
			break
		}
		name = c.Names()[0]
		b, _ := c.Bytes(name)
		if n > 0 {
			parts = append(parts, string(b[len(all):]))
		}
		all = string(b)
	}
	return name + "[" + strings.Join(parts, ",") + "]"
}

// is checks what a store has.
func is(t *testing.T, s *store.Store, want string) {
	t.Helper()
	if got := told(t, s); got != want {
		t.Errorf("%q, not %q", got, want)
	}
}

// asked checks how often a client asked since it is there, and that it is just that.
func asked(t *testing.T, s *store.Store, c *call.Client, ahead, want int) {
	t.Helper()
	if c.Asked() != want || s.Calls()-ahead != want {
		t.Error("Asked", c.Asked(), "Calls", s.Calls()-ahead, "not", want)
	}
}

// nothing is what the calls tell beside an error.
const nothing = "0 0 0"

// one is a call of a client of a begun store: what it tells beside its error, as text, what that error is, and what it leaves.
type one struct {
	name   string
	do     func(*call.Client) (string, error)
	answer string
	err    error
	behind string
}

func plain(do func(*call.Client) error) func(*call.Client) (string, error) {
	return func(c *call.Client) (string, error) { return nothing, do(c) }
}

func piece(name string, off, n int) func(*call.Client) (string, error) {
	return func(c *call.Client) (string, error) {
		b, err := c.Get(name, off, n)
		return fmt.Sprintf("0 0 %d%s", len(b), b), err
	}
}

func head(name string) func(*call.Client) (string, error) {
	return func(c *call.Client) (string, error) {
		n, sum, err := c.Head(name)
		return fmt.Sprintf("%d %d 0", n, sum), err
	}
}

func list(prefix string) func(*call.Client) (string, error) {
	return func(c *call.Client) (string, error) {
		l, err := c.List(prefix)
		return fmt.Sprintf("0 0 %d%s", len(l), strings.Join(l, "+")), err
	}
}

func start(name string) func(*call.Client) (string, error) {
	return func(c *call.Client) (string, error) {
		id, err := c.Start(name)
		return fmt.Sprintf("%d 0 0", id), err
	}
}

func uploads(c *call.Client) (string, error) {
	l, err := c.Uploads()
	return fmt.Sprintf("0 0 %d%s", len(l), strings.Trim(fmt.Sprint(l), "[]")), err
}

// steady is the calls of which it makes no difference whether they were done ahead, not refused and refused.
func steady() []one {
	return []one{
		{"Put", plain(func(c *call.Client) error { return c.Put("n", []byte("new")) }), nothing, nil, objects + "n=new " + parted + bare},
		{"Put over", plain(func(c *call.Client) error { return c.Put("a", nil) }), nothing, nil, "a= empty= " + parted + bare},
		{"Get", piece("a", 1, 3), "0 0 3ell", nil, atFirst},
		{"Get of nothing", piece("empty", 0, 0), nothing, nil, atFirst},
		{"Head", head("a"), fmt.Sprintf("5 %d 0", crc.Of([]byte("hello"))), nil, atFirst},
		{"Head of nothing", head("empty"), nothing, nil, atFirst},
		{"List", list("e"), "0 0 1empty", nil, atFirst},
		{"List of all", list(""), "0 0 2a+empty", nil, atFirst},
		{"List of none", list("no"), nothing, nil, atFirst},
		{"Part", plain(func(c *call.Client) error { return c.Part(2, 0, []byte("R")) }), nothing, nil, objects + parted + "2:none[R] "},
		{"Part anew", plain(func(c *call.Client) error { return c.Part(1, 0, []byte("R")) }), nothing, nil, objects + "1:up[R,Q] " + bare},
		{"Uploads", uploads, "0 0 21 2", nil, atFirst},

		{"Put refused", plain(func(c *call.Client) error { return c.Put("A", []byte("new")) }), nothing, api.ErrName, atFirst},
		{"Get of none", piece("no", 0, 0), nothing, api.ErrNone, atFirst},
		{"Get beyond", piece("a", 0, 6), nothing, api.ErrRange, atFirst},
		{"Get ahead", piece("a", -1, 2), nothing, api.ErrRange, atFirst},
		{"Head of none", head("no"), nothing, api.ErrNone, atFirst},
		{"Start refused", start("A"), nothing, api.ErrName, atFirst},
		{"Part of none", plain(func(c *call.Client) error { return c.Part(3, 0, nil) }), nothing, api.ErrNone, atFirst},
		{"Part beyond", plain(func(c *call.Client) error { return c.Part(1, api.MaxParts, nil) }), nothing, api.ErrRange, atFirst},
		{"Part ahead", plain(func(c *call.Client) error { return c.Part(1, -1, nil) }), nothing, api.ErrRange, atFirst},
		{"Complete with one missing", plain(func(c *call.Client) error { return c.Complete(1, 3, "a", 5, crc.Of([]byte("hello"))) }), nothing, api.ErrRange, atFirst},
		{"Complete of more than may be", plain(func(c *call.Client) error {
			return c.Complete(1, api.MaxParts+1, "a", 5, crc.Of([]byte("hello")))
		}), nothing, api.ErrRange, atFirst},
		{"Complete below", plain(func(c *call.Client) error { return c.Complete(1, -1, "a", 5, crc.Of([]byte("hello"))) }), nothing, api.ErrRange, atFirst},
	}
}

// complete completes the upload with parts, which is to be known again as the object that it is.
func complete(c *call.Client) error { return c.Complete(1, 2, "up", 3, crc.Of([]byte("PPQ"))) }

// changing is the calls of which it does.
func changing() []one {
	return []one{
		{"Delete", plain(func(c *call.Client) error { return c.Delete("a") }), nothing, nil, "empty= " + parted + bare},
		{"Abort", plain(func(c *call.Client) error { return c.Abort(1) }), nothing, nil, objects + bare},
		{"Complete", plain(complete), nothing, nil, objects + "up=PPQ " + bare},
		{"Start", start("st"), "3 0 0", nil, atFirst + "3:st[] "},
		{"Delete of none", plain(func(c *call.Client) error { return c.Delete("no") }), nothing, api.ErrNone, atFirst},
		{"Abort of none", plain(func(c *call.Client) error { return c.Abort(3) }), nothing, api.ErrNone, atFirst},
		{"Complete of no upload", plain(func(c *call.Client) error { return c.Complete(3, 0, "empty", 0, 0) }), nothing, api.ErrNone, atFirst},
	}
}

func everyCall() []one { return append(steady(), changing()...) }

// rows are outcomes of Fails and Loses, so many, in any order; if there are too many orders, some of them.
func rows(many int) [][]int {
	var all [][]int
	for order := range 1 << min(many, 4) {
		row := make([]int, many)
		for i := range row {
			row[i] = f + order>>(i%4)&1
		}
		all = append(all, row)
	}
	return all
}

// The chapter's example.
func TestExample(t *testing.T) {
	s := store.New()
	c := client(t, s, 2)
	s.Script(store.Loses)
	good(t, c.Put("a", []byte("x")))
	is(t, s, "a=x ")
	asked(t, s, c, 0, 2)
}

func TestNew(t *testing.T) {
	s := store.New()
	for _, tries := range []int{0, -1, -api.MaxTries, api.MaxTries + 1, api.MaxTries + 2, 256 + 1, 1 << 32, 1<<32 + 1, math.MinInt, math.MinInt + 1, math.MaxInt} {
		if c, err := call.New(s, tries); c != nil || err != api.ErrRange {
			t.Error(tries, c, err)
		}
	}
	if s.Calls() != 0 {
		t.Error(s.Calls())
	}
}

// Each number of tries that may be is how often is asked, if there is no answer, and no more.
func TestTries(t *testing.T) {
	for tries := 1; tries <= api.MaxTries; tries++ {
		s := store.New()
		c := client(t, s, tries)
		asked(t, s, c, 0, 0)
		s.Script(slices.Repeat([]int{f}, 5*api.MaxTries)...)
		for i := 1; i <= 4; i++ {
			if err := c.Put("a", nil); err != api.ErrStore {
				t.Error(tries, err)
			}
			asked(t, s, c, 0, i*tries)
		}
		is(t, s, "")
	}
}

// Without an outcome that is none, each call is asked once, whatever it answers.
func TestAskedOnce(t *testing.T) {
	for _, x := range everyCall() {
		for tries := 1; tries <= api.MaxTries; tries++ {
			for _, script := range [][]int{nil, {g}, {g, f, f, f, f, f, f, f, f, f}, {7, l, l, l, l, l, l, l, l, l}} {
				s, c := begun(t, tries, script...)
				ahead := s.Calls()
				if answer, err := x.do(c); answer != x.answer || err != x.err {
					t.Error(x.name, tries, script, answer, err)
				}
				asked(t, s, c, ahead, 1)
				is(t, s, x.behind)
			}
		}
	}
}

// A call is asked until it is answered: then it tells that answer, refused or not.
func TestAskedAgain(t *testing.T) {
	for _, x := range steady() {
		for tries := 2; tries <= api.MaxTries; tries++ {
			for many := 1; many < tries; many++ {
				for _, row := range rows(many) {
					s, c := begun(t, tries, append(slices.Clone(row), g, f, l)...)
					ahead := s.Calls()
					if answer, err := x.do(c); answer != x.answer || err != x.err {
						t.Error(x.name, tries, row, answer, err)
					}
					asked(t, s, c, ahead, many+1)
					is(t, s, x.behind)
				}
			}
		}
	}
}

// A call that is not answered as often as there are tries tells so, nothing beside, and is not asked once more; whether it is done or not.
func TestNotAnswered(t *testing.T) {
	for _, x := range everyCall() {
		for tries := 1; tries <= api.MaxTries; tries++ {
			for _, more := range []int{0, 1, 2} {
				for _, row := range rows(tries + more) {
					s, c := begun(t, tries, row...)
					ahead := s.Calls()
					if answer, err := x.do(c); answer != nothing || err != api.ErrStore {
						t.Error(x.name, tries, row, answer, err)
					}
					asked(t, s, c, ahead, tries)
					lost := count(row[:tries], l)
					switch {
					case lost == 0:
						is(t, s, atFirst)
					case x.name != "Start":
						is(t, s, x.behind)
					case len(s.Open()) != 2+lost:
						t.Error(tries, row, s.Open())
					}
				}
			}
		}
	}
}

func count(row []int, outcome int) int {
	many := 0
	for _, n := range row {
		if n == outcome {
			many++
		}
	}
	return many
}

// Each call begins with all its tries, and none is told of what became of the one ahead.
func TestTriesAnew(t *testing.T) {
	for _, first := range steady() {
		for _, then := range steady() {
			if first.behind != atFirst { // else there is not what the next one asks for
				continue
			}
			s, c := begun(t, 3, f, l, f, l, l, g, f, f, f, f, l)
			ahead := s.Calls()
			for i, x := range []one{first, then, first, then} {
				answer, err := x.do(c)
				if want := i%2 == 0; want && (answer != nothing || err != api.ErrStore) || !want && (answer != x.answer || err != x.err) {
					t.Error(i, x.name, answer, err)
				}
				asked(t, s, c, ahead, 3*(i+1))
			}
		}
	}
}

// Asked is of this client alone, of all of its calls; others ask the store, too, and it is no call.
func TestAsked(t *testing.T) {
	s, c := begun(t, 2)
	ahead := s.Calls()
	other := client(t, s, 5)
	want := 0
	for _, x := range everyCall() {
		x.do(c)
		want++
		asked(t, s, c, ahead, want)
	}
	other.Put("A", nil)
	s.Uploads()
	if c.Asked() != want || c.Asked() != want || other.Asked() != 1 || s.Calls() != ahead+want+2 {
		t.Error(c.Asked(), other.Asked(), s.Calls())
	}
	s.Script(f, f, f, f, f, l, g)
	other.Put("b", nil)
	c.Put("b", nil)
	if c.Asked() != want+2 || other.Asked() != 6 {
		t.Error(c.Asked(), other.Asked())
	}
}

// Two clients of a store see the same objects, and each has its own tries.
func TestTwoClients(t *testing.T) {
	s, c := begun(t, 1, f, f, f)
	other := client(t, s, 3)
	if c.Put("n", []byte("N")) != api.ErrStore {
		t.Error("no other try")
	}
	good(t, other.Put("n", []byte("N")))
	if b, err := c.Get("n", 0, 1); string(b) != "N" || err != nil {
		t.Error(b, err)
	}
	if c.Asked() != 2 || other.Asked() != 3 {
		t.Error(c.Asked(), other.Asked())
	}
}

// Numbers and names of all kinds come to an answer.
func TestAnyArguments(t *testing.T) {
	numbers := []int{math.MinInt, math.MinInt + 1, -1, 0, 1, api.MaxParts, 1 << 32, math.MaxInt - 1, math.MaxInt}
	names := []string{"", "a", "A", "a\x00", "\xff", strings.Repeat("a", 1000)}
	for _, script := range [][]int{nil, {f}, {l}, {f, f}} {
		for _, x := range numbers {
			for _, y := range numbers {
				s, c := begun(t, 2, script...)
				c.Part(x, y, nil)
				c.Abort(x)
				for _, name := range names {
					s.Script(script...)
					c.Get(name, x, y)
					c.Head(name)
					c.List(name)
					c.Complete(x, y, name, y, uint32(y))
					c.Delete(name)
					c.Start(name)
					c.Put(name, nil)
				}
			}
		}
	}
}
