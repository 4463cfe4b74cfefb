package txn_test

import (
	"fmt"
	"maps"
	"math/rand"
	"slices"
	"strings"
	"testing"

	"mailbag/api"
	"mailbag/store"
	"mailbag/txn"
)

// asLine is what the keys have that are from one on, and below another one, or all, if that is empty; in order, as text.
func asLine(all map[string]string, from, to string) string {
	var parts []string
	for _, key := range slices.Sorted(maps.Keys(all)) {
		if key >= from && (to == "" || key < to) {
			parts = append(parts, key+"="+all[key])
		}
	}
	return strings.Join(parts, " ")
}

// open is a transaction with its model: what all keys had when it began, and all that it wrote, one behind the other.
type open struct {
	*txn.Txn
	seen  map[string]string
	snap  int
	wrote []api.Write
}

// fold is what all keys have for it.
func (o *open) fold() map[string]string {
	all := maps.Clone(o.seen)
	for _, w := range o.wrote {
		if all[w.Key] = w.Val; w.Gone {
			delete(all, w.Key)
		}
	}
	return all
}

// unlike tells what a transaction and its model tell apart; nothing: "".
func (o *open) unlike(r *rand.Rand, keys []string) string {
	all := o.fold()
	for _, key := range keys {
		val, is := o.Get(key)
		if has, there := all[key]; val != has || is != there {
			return fmt.Sprintf("Get of %q: %q, %t", key, val, is)
		}
	}
	from, to := keys[r.Intn(len(keys))], keys[r.Intn(len(keys))]
	for _, bounds := range [][2]string{{"", ""}, {from, ""}, {"", to}, {from, to}} {
		if got := line(o.Range(bounds[0], bounds[1])); got != asLine(all, bounds[0], bounds[1]) {
			return fmt.Sprintf("from %q to %q: %s", bounds[0], bounds[1], got)
		}
	}
	if got := o.Writes(); !slices.Equal(got, store.Sorted(o.wrote)) || !store.Right(got) {
		return fmt.Sprint("Writes ", got)
	}
	if o.Snap() != o.snap || o.Now() != 7 {
		return fmt.Sprint("Snap ", o.Snap(), ", Now ", o.Now())
	}
	return ""
}

// run is a store, what all its keys have, which commit wrote each last, and the transactions that are open.
type run struct {
	r     *rand.Rand
	s     *store.Store
	keys  []string
	all   map[string]string
	by    map[string]int
	opens []*open
	tag   int
	made  map[string]bool
}

// begin opens a transaction.
func (m *run) begin() {
	m.tag++
	o := &open{Txn: txn.Begin(m.s, 7, m.tag), seen: maps.Clone(m.all), snap: m.s.Last()}
	m.opens = append(m.opens, o)
}

// write lets a transaction write.
func (m *run) write(o *open) string {
	w := put(m.keys[m.r.Intn(len(m.keys))], fmt.Sprint(m.tag, m.r.Intn(1000)))
	if m.r.Intn(3) == 0 {
		w = gone(w.Key)
	}
	if e := do(o.Txn, w); e != api.OK {
		return fmt.Sprint("the write of ", w.Key, ": ", e)
	}
	o.wrote = append(o.wrote, w)
	return ""
}

// name lets a transaction make an ID, that none made ahead.
func (m *run) name(o *open) string {
	id := o.ID()
	if m.made[id] {
		return "an ID made twice"
	}
	m.made[id] = true
	return ""
}

// end ends a transaction: what it wrote is committed, if nobody wrote any of that behind its Snap.
func (m *run) end(at int) string {
	o := m.opens[at]
	m.opens = slices.Delete(m.opens, at, at+1)
	free := true
	for _, w := range o.wrote {
		free = free && m.by[w.Key] <= o.snap
	}
	if got := m.s.Free(o.Writes(), o.Snap()); got != free {
		return fmt.Sprint("Free: ", got)
	}
	if !free {
		return ""
	}
	if e := m.s.Commit(api.Commit{Seq: m.s.Last() + 1, At: 7, Writes: o.Writes()}); e != api.OK {
		return fmt.Sprint("Commit: ", e)
	}
	o.seen = m.all
	m.all = o.fold()
	for _, w := range o.wrote {
		m.by[w.Key] = m.s.Last()
	}
	return ""
}

// vacuum lets go what no transaction sees that is open.
func (m *run) vacuum() string {
	least := m.s.Last()
	for _, o := range m.opens {
		least = min(least, o.snap)
	}
	if e := m.s.Vacuum(max(least, m.s.Low())); e != api.OK {
		return fmt.Sprint("Vacuum: ", e)
	}
	return ""
}

// step is one thing that happens; what is told apart of it.
func (m *run) step() string {
	if len(m.opens) == 0 || m.r.Intn(12) == 0 && len(m.opens) < 8 {
		m.begin()
		return ""
	}
	at := m.r.Intn(len(m.opens))
	switch m.r.Intn(12) {
	case 0:
		return m.end(at)
	case 1:
		m.opens = slices.Delete(m.opens, at, at+1)
		return ""
	case 2:
		return m.vacuum()
	case 3:
		return m.name(m.opens[at])
	default:
		return m.write(m.opens[at])
	}
}

// P10.1, P10.2, P10.3, P1: whatever transactions write and commit, in whichever order: each sees the fold of the commits up to its Snap, with its own writes over it, and may be committed just if no commit behind its Snap wrote one of its keys.
func TestModel(t *testing.T) {
	for seed := range int64(60) {
		r := rand.New(rand.NewSource(seed))
		m := &run{r: r, s: of(t, 0), all: map[string]string{}, by: map[string]int{}, made: map[string]bool{}}
		for i := range 5 + r.Intn(100) {
			m.keys = append(m.keys, named(i*i%131), named(i)+"\x00")
		}
		for step := range 600 {
			unlike := m.step()
			for _, o := range m.opens {
				if unlike == "" && (step%10 == 0 || step < 50) {
					unlike = o.unlike(r, m.keys)
				}
			}
			if unlike != "" {
				t.Fatalf("seed %d, step %d: %s", seed, step, unlike)
			}
		}
		if m.s.Last() == 0 {
			t.Errorf("seed %d: no commits", seed)
		}
	}
}
