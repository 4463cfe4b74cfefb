package rec_test

import (
	"fmt"
	"math"
	"math/rand"
	"strings"
	"testing"

	"mailbag/api"
	"mailbag/rec"
	"mailbag/store"
)

// put and gone are writes, in short.
func put(key, val string) api.Write { return api.Write{Key: key, Val: val} }

func gone(key string) api.Write { return api.Write{Key: key, Gone: true} }

// puts is so many writes of keys that rise.
func puts(n int) []api.Write {
	list := make([]api.Write, n)
	for i := range list {
		list[i] = put(fmt.Sprintf("%06d", i), fmt.Sprint("v", i))
	}
	return list
}

// commit is a commit, in short.
func commit(seq, at int, list ...api.Write) api.Commit {
	return api.Commit{Seq: seq, At: at, Writes: list}
}

// wrongWrites are writes that layer 9's Right doesn't take.
func wrongWrites() map[string][]api.Write {
	return map[string][]api.Write{
		"no key":              {put("", "a")},
		"a long key":          {put(strings.Repeat("k", api.MaxKey+1), "a")},
		"a long value":        {put("a", strings.Repeat("v", api.MaxVal+1))},
		"a value that goes":   {{Key: "a", Val: "x", Gone: true}},
		"one key twice":       {put("a", "1"), put("a", "2")},
		"keys that fall":      {put("b", ""), put("a", "")},
		"not by their bytes":  {put("\x80", ""), put("\x7f", "")},
		"a wrong one between": {put("a", ""), {Key: "b", Val: "x", Gone: true}, put("c", "")},
	}
}

// wrongCommits are commits that have no bytes.
func wrongCommits() map[string]api.Commit {
	wrong := map[string]api.Commit{"too many writes": commit(1, 0, puts(api.MaxWrites+1)...)}
	for _, n := range []int{math.MinInt, -1, 0, api.MaxSeq + 1, math.MaxInt} {
		wrong[fmt.Sprint("Seq ", n)] = commit(n, 0, put("a", "x"))
	}
	for _, n := range []int{math.MinInt, -1, api.MaxTime + 1, math.MaxInt} {
		wrong[fmt.Sprint("At ", n)] = commit(1, n, put("a", "x"))
	}
	for what, list := range wrongWrites() {
		wrong[what] = commit(1, 0, list...)
	}
	return wrong
}

// wrongStates are states of which there is no store.
func wrongStates() map[string]rec.State {
	wrong := map[string]rec.State{
		"gone":              {Base: []api.Write{gone("a")}},
		"the last is gone":  {Base: append(puts(300), gone("a"))},
		"a commit's number": {Seq: 1, Commits: []api.Commit{commit(1, 0)}},
		"a gap":             {Seq: 1, Commits: []api.Commit{commit(3, 0)}},
		"a gap behind one":  {Seq: 1, Commits: []api.Commit{commit(2, 0), commit(4, 0)}},
		"a commit twice":    {Seq: 1, Commits: []api.Commit{commit(2, 0), commit(2, 0)}},
		"times that fall":   {Seq: 1, Commits: []api.Commit{commit(2, 7), commit(3, 6)}},
		"behind MaxSeq":     {Seq: api.MaxSeq, Commits: []api.Commit{commit(api.MaxSeq+1, 0)}},
	}
	for _, n := range []int{math.MinInt, -1, api.MaxSeq + 1, math.MaxInt} {
		wrong[fmt.Sprint("Seq ", n)] = rec.State{Seq: n}
	}
	for what, list := range wrongWrites() {
		wrong["base: "+what] = rec.State{Seq: 1, Base: list}
	}
	for what, c := range wrongCommits() {
		wrong["commit: "+what] = rec.State{Commits: []api.Commit{c}}
	}
	return wrong
}

// rightStates are states of which there are stores.
func rightStates() map[string]rec.State {
	return map[string]rec.State{
		"none":          {},
		"no lists":      {Base: []api.Write{}, Commits: []api.Commit{{Seq: 1, Writes: []api.Write{}}}},
		"a base":        {Seq: 3, Base: []api.Write{put("a", "x"), put("b", "")}},
		"a big base":    {Seq: 3, Base: puts(api.MaxWrites + 100)},
		"a commit":      {Commits: []api.Commit{commit(1, 0, put("a", "x"))}},
		"the most":      {Commits: []api.Commit{commit(1, api.MaxTime, puts(api.MaxWrites)...)}},
		"the longest":   {Base: []api.Write{put(strings.Repeat("k", api.MaxKey), strings.Repeat("v", api.MaxVal))}},
		"the last":      {Seq: api.MaxSeq, Base: []api.Write{put("a", "")}},
		"to the last":   {Seq: api.MaxSeq - 1, Commits: []api.Commit{commit(api.MaxSeq, 0)}},
		"commits":       {Seq: 300, Base: []api.Write{put("a", "x")}, Commits: []api.Commit{commit(301, 5, gone("a"), put("b", "y")), commit(302, 5), commit(303, 256, put("a", "z"), gone("c"))}},
		"gone all":      {Seq: 1, Base: []api.Write{put("a", "x")}, Commits: []api.Commit{commit(2, 0, gone("a"))}},
		"any bytes":     {Base: []api.Write{put("\x00", "\xff\x00"), put("\xff\xff", "\x00")}},
		"many commits":  {Seq: 9, Commits: many(9, 300)},
		"commits alone": {Seq: 0, Commits: many(0, 3)},
	}
}

// many is so many commits behind one.
func many(seq, n int) []api.Commit {
	var list []api.Commit
	for i := range n {
		list = append(list, commit(seq+1+i, i/3, put("a", fmt.Sprint(i)), gone("b")))
	}
	return list
}

// told is all that a store answers of what it is to tell of, as text.
func told(s *store.Store, keys ...string) string {
	var b strings.Builder
	fmt.Fprintln(&b, s.Low(), s.Last(), s.Versions())
	for seq := s.Low(); seq <= s.Last(); seq++ {
		list, e := s.Since(seq)
		fmt.Fprintln(&b, seq, s.Base(seq), list, e)
		for _, key := range keys {
			val, is := s.Get(key, seq)
			fmt.Fprintf(&b, "%q %q %t %t\n", key, val, is, s.Free([]api.Write{put(key, "")}, seq))
		}
	}
	return b.String()
}

// want holds an answer to be such an error.
func want(t *testing.T, what string, got, e api.Errno) {
	t.Helper()
	if got != e {
		t.Errorf("%s: %d, not %d", what, got, e)
	}
}

// text is a state as text; nil and empty are one.
func text(s rec.State) string { return fmt.Sprint(s.Seq, s.Base, s.Commits) }

// P11.2: a state's store is behind its commits, over its base.
func TestStore(t *testing.T) {
	for what, s := range rightStates() {
		made, e := s.Store()
		if e != api.OK || made == nil {
			t.Fatalf("%s: %d", what, e)
		}
		if made.Low() != s.Seq || made.Last() != s.Seq+len(s.Commits) || fmt.Sprint(made.Base(s.Seq)) != fmt.Sprint(s.Base) {
			t.Errorf("%s: from %d to %d, base %v", what, made.Low(), made.Last(), made.Base(s.Seq))
		}
		list, e := made.Since(s.Seq)
		if want(t, what, e, api.OK); fmt.Sprint(list) != fmt.Sprint(s.Commits) {
			t.Errorf("%s: %v", what, list)
		}
	}
	s, _ := rightStates()["commits"].Store()
	for seq, base := range map[int]string{300: "[{a x false}]", 301: "[{b y false}]", 302: "[{b y false}]", 303: "[{a z false} {b y false}]"} {
		if got := fmt.Sprint(s.Base(seq)); got != base {
			t.Errorf("behind %d: %s", seq, got)
		}
	}
}

// P11.2: the first error of New and Commit, and no store beside it.
func TestStoreWrong(t *testing.T) {
	for what, s := range wrongStates() {
		if made, e := s.Store(); made != nil || e != api.ErrArg {
			t.Errorf("%s: %v, %d", what, made, e)
		}
	}
}

// P11.2: of a store its state.
func TestOf(t *testing.T) {
	s, _ := store.New(2, []api.Write{put("a", "0"), put("b", "0"), put("c", "0")})
	list := []api.Commit{commit(3, 1, put("a", "1"), gone("b")), commit(4, 1), commit(5, 9, gone("a"), gone("z"))}
	for _, c := range list {
		want(t, "Commit", s.Commit(c), api.OK)
	}
	for low, base := range map[int]string{2: "[{a 0 false} {b 0 false} {c 0 false}]", 3: "[{a 1 false} {c 0 false}]", 4: "[{a 1 false} {c 0 false}]", 5: "[{c 0 false}]"} {
		other, _ := rec.Of(s).Store()
		want(t, "Vacuum", other.Vacuum(low), api.OK)
		got := rec.Of(other)
		if got.Seq != low || fmt.Sprint(got.Base) != base || fmt.Sprint(got.Commits) != fmt.Sprint(list[low-2:]) {
			t.Errorf("low %d: %v", low, got)
		}
	}
}

// P11.2: a nil Store is one of no keys, behind commit 0.
func TestOfNil(t *testing.T) {
	if got := rec.Of(nil); got.Seq != 0 || len(got.Base) != 0 || len(got.Commits) != 0 {
		t.Error(got)
	}
}

// P11.2: whatever was committed and vacuumed, the store of a store's state tells what that store tells, also behind more of it.
func TestOfAndStore(t *testing.T) {
	keys := []string{"a", "b", "c", "d", "e", "f"}
	for seed := range int64(60) {
		r := rand.New(rand.NewSource(seed))
		s, _ := store.New(r.Intn(4), nil)
		for step := range 40 {
			if r.Intn(5) == 0 {
				want(t, "Vacuum", s.Vacuum(s.Low()+r.Intn(s.Last()-s.Low()+1)), api.OK)
			} else {
				want(t, "Commit", s.Commit(next(s, r, keys)), api.OK)
			}
			other, e := rec.Of(s).Store()
			if e != api.OK || told(s, keys...) != told(other, keys...) {
				t.Fatalf("seed %d, step %d: %d, %s, not %s", seed, step, e, told(other, keys...), told(s, keys...))
			}
			if seq := s.Last() - r.Intn(s.Last()-s.Low()+1); step == 39 {
				c := next(s, r, keys)
				want(t, "Vacuum", max(s.Vacuum(seq), other.Vacuum(seq)), api.OK)
				want(t, "Commit", max(s.Commit(c), other.Commit(c)), api.OK)
				if told(s, keys...) != told(other, keys...) {
					t.Fatalf("seed %d: %s, not %s", seed, told(other, keys...), told(s, keys...))
				}
			}
		}
	}
}

// next is a commit that a store takes, of a few of the keys.
func next(s *store.Store, r *rand.Rand, keys []string) api.Commit {
	var list []api.Write
	for range r.Intn(5) {
		key := keys[r.Intn(len(keys))]
		if list = append(list, put(key, fmt.Sprint(s.Last()))); r.Intn(3) == 0 {
			list[len(list)-1] = gone(key)
		}
	}
	return commit(s.Last()+1, s.Last()/4, store.Sorted(list)...)
}

// Rule 4: a state is neither changed nor kept by what is asked of it, nor does it share anything with a store.
func TestApart(t *testing.T) {
	s := rightStates()["commits"]
	ahead := text(s)
	made, _ := s.Store()
	was := told(made, "a", "b")
	if _, e := s.Encode(); e != api.OK || text(s) != ahead {
		t.Error(e, s)
	}
	s.Base[0] = put("turned", "")
	for i := range s.Commits {
		s.Commits[i].Seq = -1
		clear(s.Commits[i].Writes)
	}
	if got := told(made, "a", "b"); got != was {
		t.Errorf("%s, not %s", got, was)
	}
	of, other := rec.Of(made), rec.Of(made)
	clear(of.Base)
	for _, c := range of.Commits {
		clear(c.Writes)
	}
	clear(of.Commits)
	if told(made, "a", "b") != was || text(other) != ahead {
		t.Error(other)
	}
	bytes, _ := other.Encode()
	read, _ := rec.Decode(bytes)
	for _, c := range read.Commits {
		_ = append(c.Writes, put("behind", ""))
	}
	if text(read) != ahead {
		t.Error(read)
	}
}
