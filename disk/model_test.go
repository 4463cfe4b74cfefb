package disk_test

import (
	"fmt"
	"maps"
	"math/rand"
	"slices"
	"strings"
	"testing"

	"mailbag/api"
	"mailbag/disk"
)

// model is the chapter's disk said once more, as plainly as it goes: of each byte of each file whether it is safe.
type model struct {
	room, left int // left: turns till the power fails; below 0: it doesn't
	down       bool
	data       map[string]string
	safe       map[string][]bool
}

func (m *model) free() int {
	n := m.room
	for _, s := range m.data {
		n -= len(s)
	}
	return n
}

func (m *model) names() []string { return slices.Sorted(maps.Keys(m.data)) }

func (m *model) clone() *model {
	c := *m
	c.data, c.safe = maps.Clone(m.data), map[string][]bool{}
	for name, list := range m.safe {
		c.safe[name] = slices.Clone(list)
	}
	return &c
}

func (m *model) crash(keep []int) *model {
	c := &model{room: m.room, left: -1, data: map[string]string{}, safe: map[string][]bool{}}
	for i, name := range m.names() {
		more := 0
		if i < len(keep) {
			more = keep[i]
		}
		n := 0
		for _, is := range m.safe[name] {
			if !is && more <= 0 {
				break
			}
			if !is {
				more--
			}
			n++
		}
		c.data[name], c.safe[name] = m.data[name][:n], slices.Repeat([]bool{true}, n)
	}
	return c
}

// step is a turn with what it is told.
type step struct {
	turn       string
	name, text string
	size       int
}

// do is what the turn answers.
func (m *model) do(s step) api.Errno {
	if m.down = m.down || m.left == 0; m.down {
		return api.ErrDown
	}
	m.left--
	_, is := m.data[s.name]
	named := func(name string) bool { return len(name) >= 1 && len(name) <= 40 }
	switch {
	case s.turn == "Append" && !named(s.name), s.turn == "Rename" && !named(s.text):
		return api.ErrArg
	case s.turn == "Append" && len(s.text) > m.free():
		return api.ErrFull
	case s.turn != "Append" && !is:
		return api.ErrNone
	case s.turn == "Truncate" && (s.size < 0 || s.size > len(m.data[s.name])):
		return api.ErrArg
	}
	switch s.turn {
	case "Append":
		m.data[s.name] += s.text
		m.safe[s.name] = append(m.safe[s.name], make([]bool, len(s.text))...)
	case "Sync":
		m.safe[s.name] = slices.Repeat([]bool{true}, len(m.data[s.name]))
	case "Rename":
		data, safe := m.data[s.name], m.safe[s.name]
		delete(m.data, s.name)
		delete(m.safe, s.name)
		m.data[s.text], m.safe[s.text] = data, safe
	case "Remove":
		delete(m.data, s.name)
		delete(m.safe, s.name)
	case "Truncate":
		m.data[s.name], m.safe[s.name] = m.data[s.name][:s.size], m.safe[s.name][:s.size]
	}
	return api.OK
}

// apply does a step to a disk.
func apply(d *disk.Disk, s step) api.Errno {
	switch s.turn {
	case "Append":
		return d.Append(s.name, s.text)
	case "Sync":
		return d.Sync(s.name)
	case "Rename":
		return d.Rename(s.name, s.text)
	case "Remove":
		return d.Remove(s.name)
	}
	return d.Truncate(s.name, s.size)
}

// unlike tells what a disk and a model tell apart; nothing: "".
func unlike(d *disk.Disk, m *model) string {
	names := m.names()
	if m.down {
		names = nil
	}
	if d.Down() != m.down || d.Room() != m.free() || !slices.Equal(d.Names(), names) {
		return fmt.Sprint("Down ", d.Down(), ", Room ", d.Room(), ", Names ", d.Names(), ", not ", m.down, m.free(), names)
	}
	for _, name := range append(m.names(), "", "none") {
		text, is := m.data[name]
		e := api.OK
		if !is {
			e = api.ErrNone
		}
		if m.down {
			text, e = "", api.ErrDown
		}
		if got, ge := d.Read(name); got != text || ge != e {
			return fmt.Sprintf("Read of %q: %q, %d, not %q, %d", name, got, ge, text, e)
		}
	}
	return ""
}

// some is a step, some of them wrong.
func some(r *rand.Rand) step {
	names := []string{"a", "b", "c", "a", "b", "c", "a", "b", strings.Repeat("n", 40), strings.Repeat("n", 41), ""}
	s := step{name: names[r.Intn(len(names))], text: strings.Repeat(string(rune('a'+r.Intn(26))), r.Intn(6)), size: r.Intn(9) - 1}
	s.turn = []string{"Append", "Append", "Append", "Sync", "Rename", "Remove", "Truncate"}[r.Intn(7)]
	if s.turn == "Rename" {
		s.text = names[r.Intn(len(names))]
	}
	return s
}

// P4.1, P4.2, P4.3: whatever is done, a disk, its Clones and its Crashes tell what the model's tell, and so do those that were left behind.
func TestAgainstModel(t *testing.T) {
	for seed := range int64(300) {
		r := rand.New(rand.NewSource(seed))
		room := r.Intn(40)
		disks := []*disk.Disk{disk.New(room)}
		models := []*model{{room: room, left: -1, data: map[string]string{}, safe: map[string][]bool{}}}
		for range 200 {
			i := r.Intn(len(disks))
			d, m := disks[i], models[i]
			switch n := r.Intn(100); {
			case n < 3:
				m.left = r.Intn(20)
				d.Fall(m.left)
			case n < 6:
				disks, models = append(disks, d.Clone()), append(models, m.clone())
			case n < 10 || m.down && n < 20:
				keep := []int{r.Intn(8) - 1, r.Intn(8) - 1, r.Intn(8) - 1}[:r.Intn(4)]
				disks, models = append(disks, d.Crash(keep)), append(models, m.crash(keep))
			default:
				s := some(r)
				if got, e := apply(d, s), m.do(s); got != e {
					t.Fatalf("seed %d: %v: %d, not %d", seed, s, got, e)
				}
			}
			for k := range disks {
				if s := unlike(disks[k], models[k]); s != "" {
					t.Fatalf("seed %d, disk %d: %s", seed, k, s)
				}
			}
		}
	}
}
