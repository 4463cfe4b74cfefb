package watch_test

import (
	"fmt"
	"math"
	"math/rand"
	"reflect"
	"strings"
	"testing"

	"mailbag/api"
	"mailbag/store"
	"mailbag/watch"
)

// put and gone are writes, in short.
func put(key, val string) api.Write { return api.Write{Key: key, Val: val} }

func gone(key string) api.Write { return api.Write{Key: key, Gone: true} }

// commit is a commit of writes of keys that rise.
func commit(seq, at int, list ...api.Write) api.Commit {
	return api.Commit{Seq: seq, At: at, Writes: list}
}

// want holds an answer to be such an error.
func want(t *testing.T, what string, got, e api.Errno) {
	t.Helper()
	if got != e {
		t.Errorf("%s: %d, not %d", what, got, e)
	}
}

// storeOf is a store of no keys behind a commit, with commits behind that.
func storeOf(t *testing.T, seq int, commits ...api.Commit) *store.Store {
	t.Helper()
	s, e := store.New(seq, nil)
	want(t, "New", e, api.OK)
	for _, c := range commits {
		want(t, fmt.Sprint("Commit ", c.Seq), s.Commit(c), api.OK)
	}
	return s
}

// text is commits and a mark, as text; nil and empty are one.
func text(commits []api.Commit, mark int) string {
	var b strings.Builder
	for _, c := range commits {
		fmt.Fprintf(&b, "%d at %d:", c.Seq, c.At)
		for _, w := range c.Writes {
			fmt.Fprintf(&b, " %q %q %t,", w.Key, w.Val, w.Gone)
		}
		b.WriteByte('\n')
	}
	return fmt.Sprintf("%smark %d", b.String(), mark)
}

// wantPoll holds a Poll to tell such commits, and such a mark.
func wantPoll(t *testing.T, s *store.Store, mark int, prefix string, most, next int, commits ...api.Commit) {
	t.Helper()
	what := fmt.Sprintf("Poll(%d, %q, %d)", mark, prefix, most)
	b, e := watch.Poll(s, mark, prefix, most)
	want(t, what, e, api.OK)
	if got, is := text(b.Commits, b.Mark), text(commits, next); got != is {
		t.Errorf("%s: %s\nnot %s", what, got, is)
	}
}

// wantNoPoll holds a Poll to tell such an error, and nothing beside it.
func wantNoPoll(t *testing.T, s *store.Store, mark int, prefix string, most int, e api.Errno) {
	t.Helper()
	what := fmt.Sprintf("Poll(%d, %d bytes, %d)", mark, len(prefix), most)
	b, got := watch.Poll(s, mark, prefix, most)
	want(t, what, got, e)
	if len(b.Commits) != 0 || b.Mark != 0 {
		t.Error(what, b)
	}
}

// The chapter's example.
func TestExample(t *testing.T) {
	s := storeOf(t, 0, commit(1, 0, put("a", "")), commit(2, 0, put("b", "")))
	wantPoll(t, s, 0, "b", 1, 2, commit(2, 0, put("b", "")))
}

// P17.1: of a commit those of its writes alone whose keys begin so; it isn't told, if there are none.
func TestPollPrefix(t *testing.T) {
	long := strings.Repeat("k", api.MaxKey)
	one := []api.Write{put("A", "1"), put("a", "2"), gone("a\x00"), put("aa", ""), gone("ab"), put("abc", "3"), put("ac", "4"), put("b", "5"), put("ba", "6"), put(long, "7"), gone("\xff"), put("\xff\xff", "8")}
	s := storeOf(t, 0, commit(1, 7, one...), commit(2, 7), commit(3, 9, gone("b")))
	tell := func(prefix string, list ...api.Write) {
		t.Helper()
		wantPoll(t, s, 0, prefix, 1, 1, commit(1, 7, list...))
	}
	tell("", one...)
	tell("A", one[0])
	tell("a", one[1:7]...)
	tell("a\x00", one[2])
	tell("aa", one[3])
	tell("ab", one[4:6]...)
	tell("abc", one[5])
	tell("b", one[7:9]...)
	tell("ba", one[8])
	tell("k", one[9])
	tell(long, one[9])
	tell("\xff", one[10:]...)
	tell("\xff\xff", one[11])
	for _, prefix := range []string{"abcd", "a\x00\x00", "c", "B", "\x00", "\xff\xff\xff", "\x80", long[1:] + "l"} {
		wantPoll(t, s, 0, prefix, 1, 3)
	}
	wantPoll(t, s, 0, "b", 2, 3, commit(1, 7, one[7:9]...), commit(3, 9, gone("b")))
	wantPoll(t, s, 1, "a", 2, 3)
	wantPoll(t, s, 1, "", 1, 3, commit(3, 9, gone("b"))) // commit 2 has no writes
	wantPoll(t, s, 1, "", 2, 3, commit(3, 9, gone("b")))
}

// P17.1: as long as fewer than most are told; the Mark is the last commit that was come to, and no further one.
func TestPollMost(t *testing.T) {
	var commits []api.Commit
	for i, key := range []string{"b", "a", "b", "a", "b", "b", "a", "b"} {
		commits = append(commits, commit(i+1, i, put(key, fmt.Sprint(i))))
	}
	s := storeOf(t, 0, commits...)
	a := []api.Commit{commits[1], commits[3], commits[6]}
	wantPoll(t, s, 0, "a", 1, 2, a[:1]...)
	wantPoll(t, s, 1, "a", 1, 2, a[:1]...)
	wantPoll(t, s, 2, "a", 1, 4, a[1:2]...)
	wantPoll(t, s, 4, "a", 1, 7, a[2:]...)
	wantPoll(t, s, 7, "a", 1, 8)
	wantPoll(t, s, 8, "a", 1, 8)
	wantPoll(t, s, 0, "a", 2, 4, a[:2]...)
	wantPoll(t, s, 2, "a", 2, 7, a[1:]...)
	wantPoll(t, s, 4, "a", 2, 8, a[2:]...)
	wantPoll(t, s, 0, "a", 3, 7, a...)
	wantPoll(t, s, 0, "a", 4, 8, a...)
	wantPoll(t, s, 0, "", 5, 5, commits[:5]...)
	wantPoll(t, s, 0, "", 8, 8, commits...)
	wantPoll(t, s, 0, "", api.MaxBatch, 8, commits...)
	wantPoll(t, s, 0, "c", 1, 8)
}

// P17.1: MaxBatch commits at most.
func TestPollMaxBatch(t *testing.T) {
	var commits []api.Commit
	for i := range 2*api.MaxBatch + 1 {
		commits = append(commits, commit(i+1, 0, put("k", fmt.Sprint(i))))
	}
	s := storeOf(t, 0, commits...)
	wantPoll(t, s, 0, "k", api.MaxBatch, 100, commits[:100]...)
	wantPoll(t, s, 0, "k", api.MaxBatch-1, 99, commits[:99]...)
	wantPoll(t, s, 100, "k", api.MaxBatch, 200, commits[100:200]...)
	wantPoll(t, s, 200, "k", api.MaxBatch, 201, commits[200])
	wantPoll(t, s, 201, "k", api.MaxBatch, 201)
}

// P17.1: ErrArg of most and prefix, ahead of layer 9's errors of the mark.
func TestPollErrors(t *testing.T) {
	s := storeOf(t, 3, commit(4, 0, put("k", "")), commit(5, 0, put("k", "")))
	long := strings.Repeat("k", api.MaxKey)
	for _, most := range []int{math.MinInt, -1, 0, api.MaxBatch + 1, math.MaxInt} {
		for _, mark := range []int{3, 2, 6} {
			wantNoPoll(t, s, mark, "", most, api.ErrArg)
		}
	}
	for _, mark := range []int{3, 2, 6} {
		wantNoPoll(t, s, mark, long+"k", 1, api.ErrArg)
		wantNoPoll(t, s, mark, long+long, 1, api.ErrArg)
	}
	for _, mark := range []int{math.MinInt, -1, 0, 2} {
		wantNoPoll(t, s, mark, "", 1, api.ErrOld)
	}
	for _, mark := range []int{6, 7, api.MaxSeq, math.MaxInt} {
		wantNoPoll(t, s, mark, long, api.MaxBatch, api.ErrMark)
	}
	wantPoll(t, s, 3, "k", 1, 4, commit(4, 0, put("k", "")))
	wantPoll(t, s, 5, long, api.MaxBatch, 5)
	want(t, "Vacuum", s.Vacuum(4), api.OK)
	wantNoPoll(t, s, 3, "k", 1, api.ErrOld)
	wantPoll(t, s, 4, "k", 1, 5, commit(5, 0, put("k", "")))
}

// P17.1, at the ends of what stores there are: nil, one of a base alone, the last commit there may be.
func TestPollStores(t *testing.T) {
	wantPoll(t, nil, 0, "", 1, 0)
	wantNoPoll(t, nil, 1, "", 1, api.ErrMark)
	wantNoPoll(t, nil, -1, "", 1, api.ErrOld)
	wantNoPoll(t, nil, 0, "", 0, api.ErrArg)
	s, e := store.New(8, []api.Write{put("a", "x")})
	want(t, "New", e, api.OK)
	wantPoll(t, s, 8, "", 1, 8) // what a base has was written by no commit that is kept
	s = storeOf(t, api.MaxSeq-1, commit(api.MaxSeq, api.MaxTime, put("a", "")))
	wantPoll(t, s, api.MaxSeq-1, "a", 1, api.MaxSeq, commit(api.MaxSeq, api.MaxTime, put("a", "")))
	wantPoll(t, s, api.MaxSeq, "a", 1, api.MaxSeq)
	wantNoPoll(t, s, api.MaxSeq+1, "a", 1, api.ErrMark)
}

// Rules 3 and 4: a Poll turns nothing, and what it answers is apart from the store, and from other answers.
func TestPollApart(t *testing.T) {
	commits := []api.Commit{commit(1, 0, put("a", "1"), put("b", "2"), put("c", "3")), commit(2, 0, put("a", "4"), put("b", "5"), put("d", "6"))}
	s := storeOf(t, 0, commits...)
	for _, prefix := range []string{"b", "", "a", "none"} {
		b, e := watch.Poll(s, 0, prefix, 9)
		want(t, "Poll", e, api.OK)
		for i := range b.Commits {
			c := &b.Commits[i]
			c.Writes = append(c.Writes[:1], put("more", ""), put("and more", ""))
			c.Writes[0] = put("turned", "")
			*c = commit(9, 9)
		}
		if got, e := s.Since(0); e != api.OK || !reflect.DeepEqual(got, commits) {
			t.Fatal(prefix, got, e)
		}
	}
	one, _ := watch.Poll(s, 0, "a", 9)
	other, _ := watch.Poll(s, 0, "a", 9)
	one.Commits[0].Writes[0].Val = "turned"
	one.Commits[0].Writes = append(one.Commits[0].Writes, put("x", ""), put("y", ""), put("z", ""))
	if other.Commits[0].Writes[0].Val != "1" || one.Commits[1].Writes[0].Val != "4" {
		t.Error(one, other)
	}
}

// wrote is those of the writes whose keys begin so.
func wrote(c api.Commit, prefix string) []api.Write {
	var list []api.Write
	for _, w := range c.Writes {
		if len(w.Key) >= len(prefix) && w.Key[:len(prefix)] == prefix {
			list = append(list, w)
		}
	}
	return list
}

// telling is what a watcher is to be told of commits: those that wrote such keys.
func telling(commits []api.Commit, prefix string) []api.Commit {
	var list []api.Commit
	for _, c := range commits {
		if writes := wrote(c, prefix); len(writes) > 0 {
			list = append(list, commit(c.Seq, c.At, writes...))
		}
	}
	return list
}

// anyKey is a short text of few bytes.
func anyKey(r *rand.Rand, least int) string {
	b := make([]byte, least+r.Intn(4-least))
	for i := range b {
		b[i] = "ab\x00\xff"[r.Intn(4)]
	}
	return string(b)
}

// anyWrites is writes of a few keys, or none.
func anyWrites(r *rand.Rand) []api.Write {
	var list []api.Write
	for range r.Intn(5) {
		w := put(anyKey(r, 1), fmt.Sprint(r.Intn(100)))
		if r.Intn(3) == 0 {
			w = gone(w.Key)
		}
		list = append(list, w)
	}
	return store.Sorted(list)
}

// wantModel holds one Poll to what the promise's words come to, and answers the mark.
func wantModel(t *testing.T, s *store.Store, commits []api.Commit, mark int, prefix string, most int) int {
	t.Helper()
	next := mark
	var list []api.Commit
	for _, c := range commits {
		if c.Seq <= mark || len(list) == most {
			continue
		}
		next = c.Seq
		list = append(list, telling([]api.Commit{c}, prefix)...)
	}
	wantPoll(t, s, mark, prefix, most, next, list...)
	return next
}

// P17.1: whatever is committed, while somebody polls from mark to Mark: each commit that wrote such keys is told once, in order, and nothing behind the last one.
func TestPollModel(t *testing.T) {
	for seed := range int64(300) {
		r := rand.New(rand.NewSource(seed))
		low := r.Intn(3) * 1000
		s := storeOf(t, low)
		var commits, told []api.Commit
		prefix, mark := anyKey(r, 0), low
		for range 60 {
			for range r.Intn(4) {
				c := commit(s.Last()+1, len(commits), anyWrites(r)...)
				want(t, "Commit", s.Commit(c), api.OK)
				commits = append(commits, c)
			}
			wantModel(t, s, commits, low+r.Intn(len(commits)+1), anyKey(r, 0), 1+r.Intn(5))
			most := 1 + r.Intn(3)
			b, _ := watch.Poll(s, mark, prefix, most)
			told = append(told, b.Commits...)
			mark = wantModel(t, s, commits, mark, prefix, most)
		}
		for mark < s.Last() {
			b, e := watch.Poll(s, mark, prefix, 2)
			if want(t, "Poll", e, api.OK); b.Mark <= mark {
				t.Fatal("no further than", mark, b)
			}
			mark, told = b.Mark, append(told, b.Commits...)
		}
		wantPoll(t, s, mark, prefix, 2, mark)
		if got, is := text(told, mark), text(telling(commits, prefix), s.Last()); got != is {
			t.Fatalf("seed %d: %s\nnot %s", seed, got, is)
		}
	}
}
