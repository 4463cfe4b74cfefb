package store_test

import (
	"fmt"
	"maps"
	"math/rand"
	"slices"
	"testing"

	"mailbag/api"
	"mailbag/store"
)

// model is a store in the chapter's words: it keeps all, and folds the commits each time it is asked.
type model struct {
	first, low int
	base       []api.Write
	commits    []api.Commit
}

func (m *model) last() int { return m.first + len(m.commits) }

// fold is what all keys have behind a commit.
func (m *model) fold(seq int) map[string]string {
	all := map[string]string{}
	for _, w := range m.base {
		all[w.Key] = w.Val
	}
	for _, c := range m.commits[:seq-m.first] {
		for _, w := range c.Writes {
			if all[w.Key] = w.Val; w.Gone {
				delete(all, w.Key)
			}
		}
	}
	return all
}

// within is what the keys have that are from one on, and below another one, or all, if that is empty; in order.
func within(all map[string]string, from, to string) []api.Write {
	var list []api.Write
	for _, key := range slices.Sorted(maps.Keys(all)) {
		if key >= from && (to == "" || key < to) {
			list = append(list, put(key, all[key]))
		}
	}
	return list
}

// free tells whether no commit above one wrote a key.
func (m *model) free(key string, seq int) bool {
	for _, c := range m.commits {
		for _, w := range c.Writes {
			if c.Seq > seq && w.Key == key {
				return false
			}
		}
	}
	return true
}

// versions is how many there are.
func (m *model) versions() int {
	n := len(m.fold(m.low))
	for _, c := range m.commits[m.low-m.first:] {
		n += len(c.Writes)
	}
	return n
}

// asWrites is a sequence as writes.
func asWrites(s *store.Store, from, to string, seq int) []api.Write {
	var list []api.Write
	for key, val := range s.Range(from, to, seq) {
		list = append(list, put(key, val))
	}
	return list
}

// unlike tells what a store and its model tell apart of a commit; nothing: "".
func (m *model) unlike(s *store.Store, seq int, keys []string) string {
	if s.Low() != m.low || s.Last() != m.last() || s.Versions() != m.versions() {
		return fmt.Sprint("from ", s.Low(), " to ", s.Last(), ", ", s.Versions(), " versions, not ", m.low, m.last(), m.versions())
	}
	all := m.fold(seq)
	if got := s.Base(seq); !slices.Equal(got, within(all, "", "")) {
		return fmt.Sprint("Base ", got, ", not ", all)
	}
	if list, e := s.Since(seq); e != api.OK || fmt.Sprint(list) != fmt.Sprint(m.commits[seq-m.first:]) {
		return fmt.Sprint("Since ", list, e)
	}
	for i, key := range keys {
		val, is := s.Get(key, seq)
		if has, there := all[key]; val != has || is != there {
			return fmt.Sprint("Get of ", key, ": ", val, is)
		}
		if got := s.Free([]api.Write{gone(key)}, seq); got != m.free(key, seq) {
			return fmt.Sprint("Free of ", key, ": ", got)
		}
		to := keys[(i*7+3)%len(keys)]
		if got := asWrites(s, key, to, seq); !slices.Equal(got, within(all, key, to)) {
			return fmt.Sprint("Range from ", key, " to ", to, ": ", got)
		}
	}
	return ""
}

// commit is the next commit, of a few of the keys.
func (m *model) commit(r *rand.Rand, keys []string) api.Commit {
	c := api.Commit{Seq: m.last() + 1, At: m.last() / 3}
	var list []api.Write
	for range r.Intn(6) {
		key := keys[r.Intn(len(keys))]
		switch r.Intn(5) {
		case 0, 1:
			list = append(list, gone(key))
		case 2:
			list = append(list, put(key, ""))
		default:
			list = append(list, put(key, fmt.Sprint(c.Seq)))
		}
	}
	c.Writes = store.Sorted(list)
	return c
}

// P9.1, P9.2, P9.3, P9.4, P1: whatever is committed and vacuumed, a store tells what its commits come to.
func TestAgainstModel(t *testing.T) {
	for seed := range int64(60) {
		r := rand.New(rand.NewSource(seed))
		keys := make([]string, []int{2, 6, 30, 150}[seed%4])
		for i := range keys {
			keys[i] = named(i)
		}
		m := &model{first: r.Intn(3)}
		m.low = m.first
		for _, key := range keys {
			if r.Intn(3) == 0 {
				m.base = append(m.base, put(key, "base"))
			}
		}
		s := of(t, m.first, m.base...)
		for step := range 120 {
			if r.Intn(6) == 0 {
				m.low += r.Intn(m.last() - m.low + 1)
				want(t, "Vacuum", s.Vacuum(m.low), api.OK)
			} else {
				c := m.commit(r, keys)
				want(t, "Commit", s.Commit(c), api.OK)
				m.commits = append(m.commits, c)
			}
			seq := m.low + r.Intn(m.last()-m.low+1)
			if unlike := m.unlike(s, seq, keys[:min(len(keys), 30)]); unlike != "" {
				t.Fatalf("seed %d, step %d, behind %d: %s", seed, step, seq, unlike)
			}
		}
		for seq := m.low; seq <= m.last(); seq++ {
			if unlike := m.unlike(s, seq, keys); unlike != "" {
				t.Fatalf("seed %d, behind %d: %s", seed, seq, unlike)
			}
		}
	}
}

// P9.1, P9.3: a store that is made of another one's Base and commits tells the same.
func TestMadeAnew(t *testing.T) {
	keys := []string{"a", "b", "c", "d", "e"}
	for seed := range int64(40) {
		r := rand.New(rand.NewSource(seed))
		m := &model{}
		s := of(t, 0)
		for range 30 {
			c := m.commit(r, keys)
			want(t, "Commit", s.Commit(c), api.OK)
			m.commits = append(m.commits, c)
		}
		want(t, "Vacuum", s.Vacuum(r.Intn(31)), api.OK)
		other := of(t, s.Low(), s.Base(s.Low())...)
		list, _ := s.Since(s.Low())
		for _, c := range list {
			want(t, "Commit", other.Commit(c), api.OK)
		}
		wantText(t, fmt.Sprint("seed ", seed), told(other, keys...), told(s, keys...))
	}
}
