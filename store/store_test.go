package store_test

import (
	"fmt"
	"math"
	"slices"
	"strings"
	"testing"

	"cordwood/api"
	"cordwood/crc"
	"cordwood/store"
)

// begun is a store with objects, an upload that has parts, and one that has none; behind 7 calls.
func begun(t *testing.T) *store.Store {
	t.Helper()
	s := store.New()
	good(t, s.Put("a", []byte("hello")), s.Put("empty", nil))
	started(t, s, "up", 1)
	started(t, s, "a", 2)
	good(t, s.Part(1, 0, []byte("P")), s.Part(1, 2, []byte("R")), s.Part(1, api.MaxParts-1, []byte("Z")))
	is(t, s, "a=hello empty= 1:up[0=P 2=R 255=Z] 2:a[] next 3")
	return s
}

// good is fatal, if one of the errors is one.
func good(t *testing.T, l ...error) {
	t.Helper()
	for i, err := range l {
		if err != nil {
			t.Fatal(i, err)
		}
	}
}

// started begins an upload that has to have this id.
func started(t *testing.T, s *store.Store, name string, want int) {
	t.Helper()
	if id, err := s.Start(name); id != want || err != nil {
		t.Fatal(name, id, err)
	}
}

// left is the outcomes that are still to come, a letter each, as far as calls tell them; nothing behind the last one that is not Good.
func left(s *store.Store) string {
	c := s.Clone()
	var l []byte
	for i := range 40 {
		name := fmt.Sprintf("left%d", i)
		err := c.Put(name, nil)
		_, there := c.Bytes(name)
		switch {
		case err == nil && there:
			l = append(l, 'g')
		case err == api.ErrStore && there:
			l = append(l, 'l')
		case err == api.ErrStore:
			l = append(l, 'f')
		default:
			l = append(l, '?')
		}
	}
	return strings.TrimRight(string(l), "g")
}

// told is all that a store has: its objects, its uploads, each with its parts at some places, and the id that comes next. It asks copies.
func told(t *testing.T, s *store.Store) string {
	t.Helper()
	var l []string
	for _, name := range s.Names() {
		b, there := s.Bytes(name)
		if !there {
			t.Error(name)
		}
		l = append(l, name+"="+string(b))
	}
	for _, id := range s.Open() {
		l = append(l, fmt.Sprintf("%d:%s", id, uploadOf(t, s, id)))
	}
	c := calm(s)
	id, err := c.Start("x")
	good(t, err)
	return strings.Join(append(l, fmt.Sprint("next ", id)), " ")
}

// calm is a copy whose script is over.
func calm(s *store.Store) *store.Store {
	c := s.Clone()
	for range 40 {
		c.Uploads()
	}
	return c
}

// uploadOf is the upload's name, and its parts: it is completed with all of the others laid anew as nothing.
func uploadOf(t *testing.T, s *store.Store, id int) string {
	t.Helper()
	var parts []string
	of := ""
	for _, n := range []int{0, 1, 2, 3, 4, 254, 255} {
		c := calm(s)
		for _, name := range c.Names() {
			good(t, c.Delete(name))
		}
		for i := range n {
			good(t, c.Part(id, i, nil))
		}
		if c.Complete(id, n+1) == nil {
			b, _ := c.Bytes(c.Names()[0])
			parts = append(parts, fmt.Sprintf("%d=%s", n, b))
		} else {
			good(t, c.Complete(id, n))
		}
		of = c.Names()[0]
	}
	return of + fmt.Sprint(parts)
}

// is checks what a store has.
func is(t *testing.T, s *store.Store, want string) {
	t.Helper()
	if got := told(t, s); got != want {
		t.Errorf("%q, not %q", got, want)
	}
}

// counted checks Calls and Failed.
func counted(t *testing.T, s *store.Store, calls, failed int) {
	t.Helper()
	if s.Calls() != calls || s.Failed() != failed {
		t.Error("Calls", s.Calls(), calls, "Failed", s.Failed(), failed)
	}
}

// refused checks an error, and that behind it just the number of calls is another one.
func refused(t *testing.T, s *store.Store, want error, call func() error) {
	t.Helper()
	ahead, calls, failed := told(t, s), s.Calls(), s.Failed()
	if err := call(); err != want {
		t.Errorf("%v, not %v", err, want)
	}
	is(t, s, ahead)
	counted(t, s, calls+1, failed)
}

// wrongNames may not be names.
func wrongNames() []string {
	l := []string{"", "A", "Z", "aB", "a b", " ", "a/b", "a\x00", "a\n", "é", "a\xff", "a:", "`", "{", "@", "[", "^", ",", "0/", strings.Repeat("a", api.MaxName+1), strings.Repeat("a", 1000)}
	for c := range 256 {
		if !strings.ContainsRune("abcdefghijklmnopqrstuvwxyz0123456789.-_", rune(c)) {
			l = append(l, string([]byte{byte(c)}), string([]byte{'a', byte(c)}), string([]byte{byte(c), 'a'}))
		}
	}
	return l
}

// rightNames may be names.
func rightNames() []string {
	return []string{"a", "z", "0", "9", ".", "-", "_", "..", "seg-0000000001-data-0000000000007", strings.Repeat("a", api.MaxName), "abcdefghijklmnopqrstuvwxyz0123456789.-_"}
}

// call is a call of a begun store: what it tells beside its error, as text, what that error is when the outcome is Good, and what it leaves then.
type call struct {
	name   string
	do     func(*store.Store) (string, error)
	answer string
	err    error
	behind string
}

// nothing is what the calls tell beside ErrStore.
const nothing = "0 0 0"

func bare(do func(*store.Store) error) func(*store.Store) (string, error) {
	return func(s *store.Store) (string, error) { return nothing, do(s) }
}

func piece(name string, off, n int) func(*store.Store) (string, error) {
	return func(s *store.Store) (string, error) {
		b, err := s.Get(name, off, n)
		return fmt.Sprintf("0 0 %d%s", len(b), b), err
	}
}

func head(name string) func(*store.Store) (string, error) {
	return func(s *store.Store) (string, error) {
		n, sum, err := s.Head(name)
		return fmt.Sprintf("%d %d 0", n, sum), err
	}
}

func list(prefix string) func(*store.Store) (string, error) {
	return func(s *store.Store) (string, error) {
		l, err := s.List(prefix)
		return fmt.Sprintf("0 0 %d%s", len(l), strings.Join(l, "+")), err
	}
}

func start(name string) func(*store.Store) (string, error) {
	return func(s *store.Store) (string, error) {
		id, err := s.Start(name)
		return fmt.Sprintf("%d 0 0", id), err
	}
}

func uploads(s *store.Store) (string, error) {
	l, err := s.Uploads()
	text := fmt.Sprintf("0 0 %d", len(l))
	for _, id := range l {
		text += fmt.Sprint("+", id)
	}
	return text, err
}

// calls is each call, not refused and refused.
func calls() []call {
	const (
		ahead   = "a=hello empty= "
		parts   = "1:up[0=P 2=R 255=Z] "
		two     = "2:a[] "
		asAhead = ahead + parts + two + "next 3"
	)
	return []call{
		{"Put", bare(func(s *store.Store) error { return s.Put("n", []byte("new")) }), nothing, nil, ahead + "n=new " + parts + two + "next 3"},
		{"Put over", bare(func(s *store.Store) error { return s.Put("a", nil) }), nothing, nil, "a= empty= " + parts + two + "next 3"},
		{"Get", piece("a", 1, 3), "0 0 3ell", nil, asAhead},
		{"Head", head("a"), fmt.Sprintf("5 %d 0", crc.Of([]byte("hello"))), nil, asAhead},
		{"List", list("e"), "0 0 1empty", nil, asAhead},
		{"Delete", bare(func(s *store.Store) error { return s.Delete("a") }), nothing, nil, "empty= " + parts + two + "next 3"},
		{"Start", start("st"), "3 0 0", nil, ahead + parts + two + "3:st[] next 4"},
		{"Part", bare(func(s *store.Store) error { return s.Part(1, 1, []byte("Q")) }), nothing, nil, ahead + "1:up[0=P 1=Q 2=R 255=Z] " + two + "next 3"},
		{"Part anew", bare(func(s *store.Store) error { return s.Part(1, 0, []byte("Q")) }), nothing, nil, ahead + "1:up[0=Q 2=R 255=Z] " + two + "next 3"},
		{"Complete", bare(func(s *store.Store) error { return s.Complete(1, 1) }), nothing, nil, ahead + "up=P " + two + "next 3"},
		{"Complete of none", bare(func(s *store.Store) error { return s.Complete(2, 0) }), nothing, nil, "a= empty= " + parts + "next 3"},
		{"Abort", bare(func(s *store.Store) error { return s.Abort(1) }), nothing, nil, ahead + two + "next 3"},
		{"Uploads", uploads, "0 0 2+1+2", nil, asAhead},

		{"Put refused", bare(func(s *store.Store) error { return s.Put("A", []byte("new")) }), nothing, api.ErrName, asAhead},
		{"Get of none", piece("no", 0, 0), nothing, api.ErrNone, asAhead},
		{"Get beyond", piece("a", 0, 6), nothing, api.ErrRange, asAhead},
		{"Head of none", head("no"), nothing, api.ErrNone, asAhead},
		{"List of none", list("no"), nothing, nil, asAhead},
		{"Delete of none", bare(func(s *store.Store) error { return s.Delete("no") }), nothing, api.ErrNone, asAhead},
		{"Start refused", start(""), nothing, api.ErrName, asAhead},
		{"Part of none", bare(func(s *store.Store) error { return s.Part(3, 0, nil) }), nothing, api.ErrNone, asAhead},
		{"Part beyond", bare(func(s *store.Store) error { return s.Part(1, api.MaxParts, nil) }), nothing, api.ErrRange, asAhead},
		{"Complete of no upload", bare(func(s *store.Store) error { return s.Complete(3, 0) }), nothing, api.ErrNone, asAhead},
		{"Complete with one missing", bare(func(s *store.Store) error { return s.Complete(1, 2) }), nothing, api.ErrRange, asAhead},
		{"Abort of none", bare(func(s *store.Store) error { return s.Abort(3) }), nothing, api.ErrNone, asAhead},
	}
}

// others are no outcomes of the chapter's names.
func others() []int {
	return []int{3, -1, -2, 4, 77, 257, 258, 1 << 32, 1<<32 + 1, math.MaxInt, math.MinInt, math.MinInt + 2}
}

// The chapter's example.
func TestExample(t *testing.T) {
	s := store.New()
	s.Script(store.Loses)
	if err := s.Put("a", []byte("x")); err != api.ErrStore {
		t.Error(err)
	}
	is(t, s, "a=x next 1")
	counted(t, s, 1, 1)
}

func TestNumbers(t *testing.T) {
	if store.Good != 0 || store.Fails != 1 || store.Loses != 2 {
		t.Error(store.Good, store.Fails, store.Loses)
	}
}

func TestNew(t *testing.T) {
	s := store.New()
	is(t, s, "next 1")
	counted(t, s, 0, 0)
	if left(s) != "" {
		t.Error(left(s))
	}
	good(t, s.Put("a", nil))
	is(t, store.New(), "next 1")
}

// Without a script, and with Good, and with a number that is no outcome, a call is done, and tells its own answer.
func TestGood(t *testing.T) {
	for _, c := range calls() {
		for _, script := range append([][]int{{}, {store.Good}, {store.Good, store.Good}}, single(others())...) {
			s := begun(t)
			s.Script(script...)
			if answer, err := c.do(s); answer != c.answer || err != c.err {
				t.Error(c.name, script, answer, err)
			}
			is(t, s, c.behind)
			counted(t, s, 8, 0)
		}
	}
}

func single(l []int) [][]int {
	var scripts [][]int
	for _, n := range l {
		scripts = append(scripts, []int{n})
	}
	return scripts
}

// Fails: nothing is done. Loses: all is done. Both tell ErrStore alone, also of what would be refused.
func TestFailsAndLoses(t *testing.T) {
	for _, c := range calls() {
		s := begun(t)
		ahead := told(t, s)
		s.Script(store.Fails)
		if answer, err := c.do(s); answer != nothing || err != api.ErrStore {
			t.Error(c.name, answer, err)
		}
		is(t, s, ahead)
		counted(t, s, 8, 1)
		if answer, err := c.do(s); answer != c.answer || err != c.err { // as if it had not been
			t.Error(c.name, answer, err)
		}
		is(t, s, c.behind)
		counted(t, s, 9, 1)

		s = begun(t)
		s.Script(store.Loses)
		if answer, err := c.do(s); answer != nothing || err != api.ErrStore {
			t.Error(c.name, answer, err)
		}
		is(t, s, c.behind)
		counted(t, s, 8, 1)
	}
}

// Each call takes one outcome, whatever that is, and whatever it answers.
func TestEachTakesOne(t *testing.T) {
	for _, c := range calls() {
		for _, first := range append(others(), store.Good, store.Fails, store.Loses) {
			s := begun(t)
			s.Script(first, store.Loses, store.Fails, store.Good, store.Loses)
			c.do(s)
			if left(s) != "lfgl" {
				t.Error(c.name, first, left(s))
			}
			c.do(s)
			if left(s) != "fgl" {
				t.Error(c.name, first, left(s))
			}
			failed := 1
			if first == store.Fails || first == store.Loses {
				failed++
			}
			counted(t, s, 9, failed)
		}
	}
}

// A script of all the calls, one behind the other.
func TestScriptOfCalls(t *testing.T) {
	s := begun(t)
	var script []int
	for i := range calls() {
		script = append(script, []int{store.Fails, store.Good, store.Loses, 9}[i%4])
	}
	s.Script(script...)
	failed := 0
	for i, c := range calls() {
		_, err := c.do(s)
		fails := script[i] == store.Fails || script[i] == store.Loses
		if fails {
			failed++
		}
		if (err == api.ErrStore) != fails {
			t.Error(c.name, err)
		}
		counted(t, s, 8+i, failed)
	}
	good(t, s.Put("a", nil))
}

// What asks no store takes no outcome, and is no call.
func TestNoCalls(t *testing.T) {
	s := begun(t)
	s.Script(store.Fails, store.Loses)
	s.Names()
	s.Open()
	s.Bytes("a")
	s.Bytes("no")
	s.Bytes("")
	s.Calls()
	s.Failed()
	s.Clone()
	s.Script()
	s.Script(store.Good, store.Fails)
	s.Names()
	counted(t, s, 7, 0)
	if left(s) != "flgf" {
		t.Error(left(s))
	}
	if !slices.Equal(s.Names(), []string{"a", "empty"}) || !slices.Equal(s.Open(), []int{1, 2}) {
		t.Error(s.Names(), s.Open())
	}
	if b, there := s.Bytes("a"); string(b) != "hello" || !there {
		t.Error(string(b), there)
	}
	counted(t, s, 7, 0)
	if s.Put("n", nil) != api.ErrStore {
		t.Error("the first outcome is gone")
	}
}

// A script that is told behind another one goes on behind it; one that is over begins anew.
func TestScriptGoesOn(t *testing.T) {
	s := store.New()
	s.Script(store.Fails, store.Good)
	s.Script(store.Loses)
	s.Script()
	s.Script(7, store.Fails)
	if left(s) != "fglgf" {
		t.Error(left(s))
	}
	s.Uploads()
	s.Script(store.Loses)
	if left(s) != "glgfl" {
		t.Error(left(s))
	}
	for range 5 {
		s.Uploads()
	}
	counted(t, s, 6, 4)
	if left(s) != "" {
		t.Error(left(s))
	}
	for range 3 { // these are no outcomes that the next script would have to begin behind, or ahead of
		_, err := s.Uploads()
		good(t, err)
	}
	s.Script(store.Fails)
	if left(s) != "f" {
		t.Error(left(s))
	}
	s.List("")
	counted(t, s, 10, 5)
}

// A long script: each outcome is for its own call.
func TestLongScript(t *testing.T) {
	s := store.New()
	kinds := []int{store.Good, store.Fails, store.Loses, 5, store.Loses}
	failed := 0
	for i := range 3000 {
		if i%7 == 0 {
			for k := range 7 {
				s.Script(kinds[(i+k)%5])
			}
		}
		_, err := s.List("")
		if want := i%5 != 0 && i%5 != 3; (err == api.ErrStore) != want {
			t.Fatal(i, err)
		} else if want {
			failed++
		}
		counted(t, s, i+1, failed)
	}
}

// The outcomes handed in are the caller's.
func TestScriptMemory(t *testing.T) {
	s := store.New()
	l := []int{store.Fails, store.Good, 1, 1, 1, 1}
	s.Script(l[:2]...)
	l[0], l[1] = store.Good, store.Fails
	s.Script(store.Loses)
	if left(s) != "fgl" || !slices.Equal(l, []int{0, 1, 1, 1, 1, 1}) {
		t.Error(left(s), l)
	}
}

// What a copy is told leaves the other one alone, and the other way round; a copy of a copy, too.
func TestClone(t *testing.T) {
	spoil := func(s *store.Store) {
		s.Uploads()
		s.Uploads()
		good(t, s.Put("a", []byte("other")), s.Put("n", nil), s.Delete("empty"), s.Part(1, 0, []byte("X")), s.Part(1, 1, []byte("Y")), s.Part(2, 0, []byte("V")))
		started(t, s, "st", 3)
		good(t, s.Complete(1, 3), s.Abort(2))
		s.Script(store.Fails, store.Fails)
		s.Put("a", nil)
	}
	check := func(s *store.Store) {
		t.Helper()
		counted(t, s, 7, 0)
		is(t, s, "a=hello empty= 1:up[0=P 2=R 255=Z] 2:a[] next 3")
		if left(s) != "fl" {
			t.Error(left(s))
		}
		s.Script(store.Good, store.Fails)
		if left(s) != "flgf" {
			t.Error(left(s))
		}
	}
	begin := func() *store.Store {
		s := begun(t)
		s.Script(store.Fails, store.Loses)
		return s
	}
	s := begin()
	c := s.Clone()
	e := c.Clone()
	spoil(c)
	is(t, c, "a=other n= up=XYR 3:st[] next 4")
	counted(t, c, 7+2+6+1+2+1, 3)
	check(s)
	check(e)
	s = begin()
	c = s.Clone()
	spoil(s)
	check(c)
}

// A copy is behind what the other one was told: its calls, its failures, its ids.
func TestCloneGoesOn(t *testing.T) {
	s := begun(t)
	s.Script(store.Fails, store.Good, store.Loses)
	s.Uploads()
	good(t, s.Abort(2))
	c := s.Clone()
	counted(t, c, 9, 1)
	if c.Abort(1) != api.ErrStore || c.Part(1, 0, nil) != api.ErrNone || s.Part(1, 0, nil) != api.ErrStore {
		t.Error("Loses")
	}
	counted(t, c, 11, 2)
	counted(t, s, 10, 2)
	started(t, c, "c", 3)
	started(t, s, "s", 3)
	is(t, c, "a=hello empty= 3:c[] next 4")
	is(t, s, "a=hello empty= 1:up[0= 2=R 255=Z] 3:s[] next 4")
}

// Both go on with the same script, and neither takes the other's outcomes, nor lays its own there, whatever room there is behind it.
func TestCloneScript(t *testing.T) {
	for n := range 20 {
		s := store.New()
		for range n {
			s.Script(store.Loses)
		}
		c := s.Clone()
		s.Script(store.Fails)
		c.Script(store.Loses)
		s.Script(store.Loses)
		c.Script(store.Fails)
		ahead := strings.Repeat("l", n)
		if left(s) != ahead+"fl" || left(c) != ahead+"lf" {
			t.Error(n, left(s), left(c))
		}
		for range n + 1 {
			s.Uploads()
		}
		if left(s) != "l" || left(c) != ahead+"lf" {
			t.Error(n, left(s), left(c))
		}
		counted(t, s, n+1, n+1)
		counted(t, c, 0, 0)
	}
}
