package disk_test

import (
	"fmt"
	"math/rand/v2"
	"slices"
	"strings"
	"testing"

	"cordwood/api"
	"cordwood/disk"
)

// model is a disk done in the plainest way: the names behind each move are all written down, and a file is its place in the order of the Creates.
type model struct {
	room   int
	states []map[string]int // of the names: at the last SyncDir, and behind each move since
	text   []string
	synced []int
	calls  int
	armed  int
	down   bool
}

func (m *model) now() map[string]int { return m.states[len(m.states)-1] }

func (m *model) used() int {
	n := 0
	for _, f := range m.now() {
		n += len(m.text[f])
	}
	return n
}

// call is a call's error, and it is done, if there is none.
func (m *model) call(kind, name, other string, n int) error {
	if m.armed == 1 {
		m.down = true
	}
	m.armed = max(m.armed-1, 0)
	if m.down {
		return api.ErrCrash
	}
	err := m.refuse(kind, name, other, n)
	if err == nil {
		m.do(kind, name, other, n)
		m.calls++
	}
	return err
}

func (m *model) refuse(kind, name, other string, n int) error {
	f, there := m.now()[name]
	wrong := func(s string) bool { return s == "" || strings.ToLower(s) != s }
	switch {
	case kind == "syncdir":
		return nil
	case kind == "create" && wrong(name):
		return api.ErrName
	case kind == "create" && there:
		return api.ErrThere
	case kind == "create":
		return nil
	case !there:
		return api.ErrNone
	case kind == "append" && m.used()+n > m.room:
		return api.ErrFull
	case kind == "cut" && (n < 0 || n > len(m.text[f])):
		return api.ErrRange
	case kind == "rename" && wrong(other):
		return api.ErrName
	}
	return nil
}

func (m *model) do(kind, name, other string, n int) {
	f := m.now()[name]
	next := map[string]int{}
	for k, v := range m.now() {
		next[k] = v
	}
	switch kind {
	case "create":
		next[name] = len(m.text)
		m.text, m.synced = append(m.text, ""), append(m.synced, 0)
	case "append":
		m.text[f] += strings.Repeat(other, n)
	case "cut":
		m.text[f], m.synced[f] = m.text[f][:n], n
	case "sync":
		m.synced[f] = len(m.text[f])
	case "rename":
		delete(next, name)
		next[other] = f
	case "remove":
		delete(next, name)
	case "syncdir":
		m.states = []map[string]int{next}
	}
	if kind == "create" || kind == "rename" || kind == "remove" {
		m.states = append(m.states, next)
	}
}

// crash drops what the picks, as they are taken round, do not keep.
func (m *model) crash(picks []int) {
	take := func(choices int) int {
		if len(picks) == 0 {
			return 0
		}
		p := picks[0]
		picks = picks[1:]
		for p < 0 {
			p += choices
		}
		return p % choices
	}
	m.states = []map[string]int{m.states[take(len(m.states))]}
	var files []int
	for _, f := range m.now() {
		files = append(files, f)
	}
	slices.Sort(files)
	for _, f := range files {
		m.text[f] = m.text[f][:m.synced[f]+take(len(m.text[f])-m.synced[f]+1)]
		m.synced[f] = len(m.text[f])
	}
	m.armed, m.down = 0, false
}

func (m *model) told() string {
	if m.down {
		return "down"
	}
	var l []string
	for name, f := range m.now() {
		l = append(l, fmt.Sprintf("%s/%d=%s", name, m.synced[f], m.text[f]))
	}
	slices.Sort(l)
	return strings.Join(l, " ")
}

func (m *model) clone() *model {
	c := *m
	c.states, c.text, c.synced = slices.Clone(m.states), slices.Clone(m.text), slices.Clone(m.synced)
	return &c
}

// onDisk is the same call, on a disk.
func onDisk(d *disk.Disk, kind, name, other string, n int) error {
	switch kind {
	case "create":
		return d.Create(name)
	case "append":
		return d.Append(name, []byte(strings.Repeat(other, n)))
	case "cut":
		return d.Cut(name, n)
	case "sync":
		return d.Sync(name)
	case "rename":
		return d.Rename(name, other)
	case "remove":
		return d.Remove(name)
	}
	return d.SyncDir()
}

// Scripts of calls, armed ones and crashes among them, on the disk and on the model.
func TestModel(t *testing.T) {
	r := rand.New(rand.NewPCG(4, 4))
	kinds := []string{"create", "create", "append", "append", "append", "cut", "sync", "rename", "rename", "remove", "syncdir"}
	names := []string{"a", "b", "c", "d", "e", "e", "A", ""}
	for script := range 400 {
		room := 1 + r.IntN(60)
		d := made(t, room)
		m := &model{room: room, states: []map[string]int{{}}}
		for step := range 150 {
			switch r.IntN(30) {
			case 0:
				n := r.IntN(12) - 2
				d.Arm(n)
				m.armed = max(n, 0)
			case 1:
				var picks []int
				for range r.IntN(9) {
					picks = append(picks, r.IntN(60)-30)
				}
				d.Crash(picks...)
				m.crash(picks)
			case 2: // both go on as copies, behind which the old ones change no more of theirs
				c, k := d.Clone(), m.clone()
				d.Crash(3, 2, 1)
				d.Create("spoilt")
				d, m = c, k
			default:
				kind, name, n := kinds[r.IntN(len(kinds))], names[r.IntN(len(names))], r.IntN(12)-1
				other := names[r.IntN(len(names))]
				if kind == "append" {
					other, n = string(rune('A'+step%26)), max(n, 0)
				}
				got, want := onDisk(d, kind, name, other, n), m.call(kind, name, other, n)
				if got != want {
					t.Fatal(script, step, kind, name, other, n, got, want)
				}
			}
			if got, want := told(t, d), m.told(); got != want || d.Calls() != m.calls || d.Used() != m.used() || d.Down() != m.down {
				t.Fatal(script, step, got, want, d.Calls(), m.calls, d.Used(), m.used())
			}
		}
	}
}
