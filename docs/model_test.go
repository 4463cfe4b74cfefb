package docs_test

import (
	"cmp"
	"fmt"
	"maps"
	"math/rand"
	"reflect"
	"slices"
	"testing"

	"mailbag/api"
	"mailbag/docs"
	"mailbag/octet"
	"mailbag/ord"
	"mailbag/patch"
	"mailbag/schema"
	"mailbag/store"
	"mailbag/txn"
	"mailbag/val"
)

// place is where a document is.
type place struct{ coll, id string }

// stored is a document as the model keeps it.
type stored struct {
	v   val.Val
	due int
}

// model is collections and documents in the chapter's words: no entries, each question goes through all documents.
type model struct {
	colls map[string]schema.Coll
	all   map[place]stored
	now   int
}

// there is whether a document is there.
func (m *model) there(at place) bool {
	d, is := m.all[at]
	return is && (d.due == 0 || d.due > m.now)
}

// taken tells whether another document has a value that is there once.
func (m *model) taken(at place, v val.Val) bool {
	for other, d := range m.all {
		if other.coll != at.coll || other.id == at.id {
			continue
		}
		for _, x := range m.colls[at.coll].Indexes {
			a, has := v.Get(x.Field)
			b, too := d.v.Get(x.Field)
			if x.Unique && has && too && a.Same(b) {
				return true
			}
		}
	}
	return false
}

// put is P14.1's Put.
func (m *model) put(at place, v val.Val, due int) api.Errno {
	switch _, is := m.colls[at.coll]; {
	case !is:
		return api.ErrNone
	case at.id == "" || len(at.id) > 60 || due < 0 || due > api.MaxTime || v.Kind != val.Map || !v.Right():
		return api.ErrArg
	case m.taken(at, v):
		return api.ErrTwice
	}
	m.all[at] = stored{v, due}
	return api.OK
}

// patch is P14.1's Patch.
func (m *model) patch(at place, ops []patch.Op) api.Errno {
	if !m.there(at) {
		return api.ErrNone
	}
	v, e := patch.Apply(m.all[at].v, ops)
	if e != api.OK {
		return e
	}
	return m.put(at, v, m.all[at].due)
}

// drop is P14.1's Delete.
func (m *model) drop(at place) api.Errno {
	if !m.there(at) {
		return api.ErrNone
	}
	delete(m.all, at)
	return api.OK
}

// places is where the documents are for which a condition holds, in order of their collections and ids.
func (m *model) places(is func(at place) bool) []place {
	var list []place
	for at := range m.all {
		if is(at) {
			list = append(list, at)
		}
	}
	slices.SortFunc(list, func(a, b place) int {
		return cmp.Or(cmp.Compare(a.coll, b.coll), cmp.Compare(a.id, b.id))
	})
	return list
}

// scan is P14.2's Scan.
func (m *model) scan(coll, from string, most int) []place {
	list := m.places(func(at place) bool { return at.coll == coll && at.id >= from && m.there(at) })
	return list[:min(len(list), max(most, 0))]
}

// query is P14.2's Query, of an index that is there.
func (m *model) query(coll string, x schema.Index, lo, hi val.Val, most int) []place {
	value := func(at place) (val.Val, bool) { return m.all[at].v.Get(x.Field) }
	list := m.places(func(at place) bool {
		v, has := value(at)
		return at.coll == coll && m.there(at) && has && v.Compare(lo) >= 0 && v.Compare(hi) <= 0
	})
	slices.SortStableFunc(list, func(a, b place) int {
		v, _ := value(a)
		w, _ := value(b)
		return v.Compare(w)
	})
	return list[:min(len(list), max(most, 0))]
}

// reap is P14.3's Reap.
func (m *model) reap(most int) int {
	list := m.places(func(at place) bool { return !m.there(at) })
	list = list[:min(len(list), max(most, 0))]
	for _, at := range list {
		delete(m.all, at)
	}
	return len(list)
}

// kept is all keys that there are to be, each with its value.
func (m *model) kept() []string {
	var list []string
	tell := func(key, v string) { list = append(list, fmt.Sprintf("%q %q", key, v)) }
	for name, c := range m.colls {
		tell(ord.Key("c", name), c.Encode())
	}
	for at, d := range m.all {
		s, _ := d.v.Encode()
		tell(ord.Key("d", at.coll, at.id), string(octet.Num(nil, d.due))+s)
		for _, x := range m.colls[at.coll].Indexes {
			v, has := d.v.Get(x.Field)
			key := ord.Key("i", at.coll, x.Name) + string(ord.Val(nil, v))
			if !x.Unique {
				key += ord.Key(at.id)
			}
			if has {
				tell(key, at.id)
			}
		}
	}
	slices.Sort(list)
	return list
}

// rows is what documents there are at places.
func (m *model) rows(list []place) []docs.Row {
	var rows []docs.Row
	for _, at := range list {
		rows = append(rows, docs.Row{ID: at.id, Val: m.all[at].v})
	}
	return rows
}

// run is a store with its model, and a transaction with its own.
type run struct {
	r     *rand.Rand
	s     *store.Store
	m     *model
	x     *txn.Txn
	own   *model
	colls []string
	ids   []string
}

// begin lets a transaction begin.
func (u *run) begin() {
	u.x = txn.Begin(u.s, u.m.now, 1)
	u.own = &model{colls: maps.Clone(u.m.colls), all: maps.Clone(u.m.all), now: u.m.now}
}

// end commits the transaction, or lets it go; and time goes by.
func (u *run) end() string {
	if u.r.Intn(4) > 0 {
		if e := u.s.Commit(api.Commit{Seq: u.s.Last() + 1, Writes: u.x.Writes()}); e != api.OK {
			return fmt.Sprint("Commit: ", e)
		}
		u.m = u.own
	}
	u.m.now += u.r.Intn(8)
	u.begin()
	return ""
}

// value is a value of few, of many kinds.
func (u *run) value() val.Val {
	list := values()
	if u.r.Intn(2) == 0 {
		return val.OfInt(int64(u.r.Intn(6)))
	}
	return list[u.r.Intn(len(list))]
}

// doc is a document; once in a while none.
func (u *run) doc() val.Val {
	if u.r.Intn(30) == 0 {
		return u.value()
	}
	v := mapOf()
	for _, name := range []string{"", "a", "b", "n"} {
		if u.r.Intn(3) > 0 {
			v = v.With(name, u.value())
		}
	}
	return v
}

// ops are a few operations.
func (u *run) ops() []patch.Op {
	var ops []patch.Op
	for range u.r.Intn(3) {
		name := []string{"", "a", "b", "n", "z"}[u.r.Intn(5)]
		ops = append(ops, []patch.Op{op(patch.Set, u.value(), name), op(patch.Drop, val.Val{}, name), op(patch.Add, val.OfInt(1), name)}[u.r.Intn(3)])
	}
	return ops
}

// step is one call that may turn something: what is told apart of it.
func (u *run) step() string {
	at := place{u.colls[u.r.Intn(len(u.colls))], u.ids[u.r.Intn(len(u.ids))]}
	var what string
	var got, e api.Errno
	switch u.r.Intn(9) {
	case 0:
		what, got, e = "Delete", docs.Delete(u.x, at.coll, at.id), u.own.drop(at)
	case 1, 2:
		ops := u.ops()
		what, got, e = fmt.Sprint("Patch ", ops), docs.Patch(u.x, at.coll, at.id, ops), u.own.patch(at, ops)
	case 3:
		if u.r.Intn(4) > 0 {
			return ""
		}
		most := u.r.Intn(5)
		n, other := docs.Reap(u.x, most)
		if want := u.own.reap(most); n != want || other != api.OK {
			return fmt.Sprint("Reap of ", most, ": ", n, other, ", not ", want)
		}
		return ""
	default:
		v, due := u.doc(), []int{0, u.own.now, u.own.now + 1 + u.r.Intn(20), u.own.now + 5, -1}[u.r.Intn(33)%5]
		what, got, e = fmt.Sprint("Put of ", v, due), docs.Put(u.x, at.coll, at.id, v, due), u.own.put(at, v, due)
	}
	if got != e {
		return fmt.Sprintf("%s at %q: %d, not %d", what, at, got, e)
	}
	return ""
}

// unlike tells what a transaction and its model tell apart; nothing: "".
func (u *run) unlike() string {
	coll := u.colls[u.r.Intn(len(u.colls))]
	c, is := u.own.colls[coll]
	if !is {
		return ""
	}
	from, most := u.ids[u.r.Intn(len(u.ids))], u.r.Intn(6)-1
	if u.r.Intn(3) == 0 {
		from, most = "", 999
	}
	if got, e := docs.Scan(u.x, coll, from, most); e != api.OK || !reflect.DeepEqual(got, u.own.rows(u.own.scan(coll, from, most))) {
		return fmt.Sprintf("Scan of %q from %q, %d: %v, %d", coll, from, most, got, e)
	}
	for _, x := range c.Indexes {
		lo, hi := u.value(), u.value()
		if u.r.Intn(3) == 0 {
			lo, hi = val.Val{}, values()[len(values())-1]
		}
		if got, e := docs.Query(u.x, coll, x.Name, lo, hi, most); e != api.OK || !reflect.DeepEqual(got, u.own.rows(u.own.query(coll, x, lo, hi, most))) {
			return fmt.Sprintf("Query of %q by %v from %v to %v, %d: %v, %d", coll, x, lo, hi, most, got, e)
		}
	}
	for _, id := range u.ids {
		at := place{coll, id}
		got, e := docs.Get(u.x, coll, id)
		if is := u.own.there(at); is != (e == api.OK) || is && !reflect.DeepEqual(got, u.own.all[at].v) || !is && e != api.ErrNone {
			return fmt.Sprintf("Get of %q: %v, %d", at, got, e)
		}
	}
	seen := slices.Sorted(keys(u.x))
	if !slices.Equal(seen, u.own.kept()) {
		return fmt.Sprintf("kept: %q, not %q", seen, u.own.kept())
	}
	return ""
}

// modelColls are collections of the model.
func modelColls() []schema.Coll {
	return []schema.Coll{
		{Name: "a"},
		{Name: "a\x00", Indexes: []schema.Index{ix("n", "n", false)}},
		{Name: "b", Indexes: []schema.Index{ix("n", "n", true), ix("a", "a", false), ix("n\x00", "a", false)}},
		{Name: "c", Indexes: []schema.Index{ix("n", "n", true), ix("m", "n", false), ix("a", "a", true), ix("none", "none", true), ix("\xff", "", false)}},
	}
}

// P14.1, P14.2, P14.3, P1: whatever is put, patched, deleted and reaped, in transactions that are committed or not: all calls answer what the documents come to, and just the chapter's keys are kept.
func TestModel(t *testing.T) {
	for seed := range int64(40) {
		u := &run{r: rand.New(rand.NewSource(seed)), m: &model{colls: map[string]schema.Coll{}, all: map[place]stored{}}}
		u.s, _ = store.New(0, nil)
		u.colls = []string{"no such"}
		u.ids = append([]string{"", "\x00", "a", "a\x00", "b", "\xff", long(60), long(61)}, []string{"1", "2", "3", "4", "5", "6", "7", "8"}[:seed%8]...)
		u.begin()
		for _, c := range modelColls() {
			want(t, "Make", schema.Make(u.x, c), api.OK)
			u.own.colls[c.Name] = c
			u.colls = append(u.colls, c.Name, c.Name)
		}
		want(t, "Commit", u.s.Commit(api.Commit{Seq: 1, Writes: u.x.Writes()}), api.OK)
		u.m = u.own
		u.begin()
		for step := range 600 {
			unlike := u.step()
			if unlike == "" && step%3 == 0 {
				unlike = u.unlike()
			}
			if unlike == "" && (len(u.x.Writes()) > 150 || u.r.Intn(20) == 0) {
				unlike = u.end()
			}
			if unlike != "" {
				t.Fatalf("seed %d, step %d: %s", seed, step, unlike)
			}
		}
		if u.s.Last() < 5 || len(u.m.all) < 5 {
			t.Errorf("seed %d: %d commits, %d documents", seed, u.s.Last(), len(u.m.all))
		}
	}
}
