package store_test

import (
	"fmt"
	"iter"
	"math"
	"math/rand"
	"slices"
	"strings"
	"testing"

	"mailbag/api"
	"mailbag/store"
)

// put and gone are writes, in short.
func put(key, val string) api.Write { return api.Write{Key: key, Val: val} }

func gone(key string) api.Write { return api.Write{Key: key, Gone: true} }

// named is the key of a number; the keys have the numbers' order.
func named(i int) string { return fmt.Sprintf("%06d", i) }

// puts is so many writes of keys that rise.
func puts(n int) []api.Write {
	list := make([]api.Write, n)
	for i := range list {
		list[i] = put(named(i), fmt.Sprint("v", i))
	}
	return list
}

// of is a store behind a commit.
func of(t *testing.T, seq int, base ...api.Write) *store.Store {
	t.Helper()
	s, e := store.New(seq, base)
	if e != api.OK || s == nil {
		t.Fatalf("New of %d: %v, %d", seq, s, e)
	}
	return s
}

// write commits writes, in whichever order, behind the last commit, at 0.
func write(t *testing.T, s *store.Store, list ...api.Write) {
	t.Helper()
	want(t, "Commit", s.Commit(api.Commit{Seq: s.Last() + 1, Writes: store.Sorted(list)}), api.OK)
}

// want holds an answer to be such an error.
func want(t *testing.T, what string, got, e api.Errno) {
	t.Helper()
	if got != e {
		t.Errorf("%s: %d, not %d", what, got, e)
	}
}

// wantText holds an answer to be such a text.
func wantText(t *testing.T, what, got, text string) {
	t.Helper()
	if got != text {
		t.Errorf("%s: %q, not %q", what, got, text)
	}
}

// wantBounds holds a store to such a Low and Last.
func wantBounds(t *testing.T, s *store.Store, low, last int) {
	t.Helper()
	if s.Low() != low || s.Last() != last {
		t.Errorf("from %d to %d, not %d to %d", s.Low(), s.Last(), low, last)
	}
}

// line is what a sequence tells, as text.
func line(seq iter.Seq2[string, string]) string {
	var parts []string
	for key, val := range seq {
		parts = append(parts, key+"="+val)
	}
	return strings.Join(parts, " ")
}

// told is all that a store answers of what it is to tell of, as text; of a key that isn't there, too.
func told(s *store.Store, keys ...string) string {
	var b strings.Builder
	fmt.Fprintln(&b, s.Low(), s.Last(), s.Versions())
	for seq := s.Low(); seq <= s.Last(); seq++ {
		list, e := s.Since(seq)
		fmt.Fprintln(&b, seq, s.Base(seq), line(s.Range("", "", seq)), list, e)
		for _, key := range keys {
			val, is := s.Get(key, seq)
			fmt.Fprintf(&b, "%q %q %t %t\n", key, val, is, s.Free([]api.Write{put(key, "")}, seq))
		}
	}
	return b.String()
}

// wrongWrites are writes that aren't right, one by one.
func wrongWrites() map[string][]api.Write {
	return map[string][]api.Write{
		"no key":               {put("", "a")},
		"no key, gone":         {gone("")},
		"no key behind others": {put("a", ""), put("", "")},
		"a long key":           {put(strings.Repeat("k", api.MaxKey+1), "a")},
		"a long key, gone":     {gone(strings.Repeat("k", api.MaxKey+1))},
		"a long value":         {put("a", strings.Repeat("v", api.MaxVal+1))},
		"a value of what goes": {{Key: "a", Val: "x", Gone: true}},
		"one key twice":        {put("a", "1"), put("a", "2")},
		"one key, gone":        {put("a", "1"), gone("a")},
		"keys that fall":       {put("b", ""), put("a", "")},
		"not by their bytes":   {put("\x80", ""), put("\x7f", "")},
		"a beginning behind":   {put("ab", ""), put("a", "")},
		"the last one":         {put("a", ""), put("b", ""), put("c", ""), put("b", "")},
		"a wrong one between":  {put("a", ""), {Key: "b", Val: "x", Gone: true}, put("c", "")},
	}
}

// rightWrites are writes that are right, and none of which is gone.
func rightWrites() map[string][]api.Write {
	return map[string][]api.Write{
		"nil":             nil,
		"none":            {},
		"one":             {put("a", "1")},
		"no value":        {put("a", "")},
		"a byte 0":        {put("\x00", "\x00")},
		"by their bytes":  {put("\x00", ""), put("\x00\x00", ""), put("A", ""), put("a", ""), put("a\x00", ""), put("aa", ""), put("\x7f", ""), put("\x80", ""), put("\xff\xff", "")},
		"the longest":     {put(strings.Repeat("k", api.MaxKey), strings.Repeat("v", api.MaxVal))},
		"the most":        puts(api.MaxWrites),
		"one value twice": {put("a", "1"), put("b", "1")},
	}
}

// P9, what is right.
func TestRight(t *testing.T) {
	for what, list := range rightWrites() {
		if !store.Right(list) {
			t.Error("wrong:", what)
		}
	}
	for _, list := range [][]api.Write{{gone("a")}, {put("a", "1"), gone("b"), put("c", "")}, {gone(strings.Repeat("k", api.MaxKey))}} {
		if !store.Right(list) {
			t.Error("wrong:", list)
		}
	}
	for what, list := range wrongWrites() {
		if store.Right(list) {
			t.Error("right:", what)
		}
	}
	if store.Right(puts(api.MaxWrites + 1)) {
		t.Error("right: more than the most")
	}
}

// P9, what is sorted.
func TestSorted(t *testing.T) {
	long := strings.Repeat("l", 5000)
	for _, c := range []struct{ list, sorted []api.Write }{
		{nil, nil},
		{[]api.Write{}, nil},
		{[]api.Write{put("a", "1")}, []api.Write{put("a", "1")}},
		{[]api.Write{put("b", "1"), put("a", "1"), put("b", "2")}, []api.Write{put("a", "1"), put("b", "2")}},
		{[]api.Write{put("a", "2"), put("a", "1")}, []api.Write{put("a", "1")}},
		{[]api.Write{put("a", "1"), gone("a")}, []api.Write{gone("a")}},
		{[]api.Write{gone("a"), put("a", "1")}, []api.Write{put("a", "1")}},
		{[]api.Write{put("\xff", ""), put("\x80", ""), put("a\x00", ""), put("ab", ""), put("a", ""), put("B", "")}, []api.Write{put("B", ""), put("a", ""), put("a\x00", ""), put("ab", ""), put("\x80", ""), put("\xff", "")}},
		{[]api.Write{put(long, long), put("", "1"), {Key: "a", Val: "x", Gone: true}}, []api.Write{put("", "1"), {Key: "a", Val: "x", Gone: true}, put(long, long)}}, // also of what isn't right
	} {
		list := slices.Clone(c.list)
		if got := store.Sorted(list); !slices.Equal(got, c.sorted) {
			t.Errorf("of %v: %v", c.list, got)
		}
		if !slices.Equal(list, c.list) {
			t.Errorf("%v became %v", c.list, list)
		}
	}
}

// P9, what is sorted: of many, in whichever order, what was written last of each key.
func TestSortedOfMany(t *testing.T) {
	for seed := range int64(50) {
		r := rand.New(rand.NewSource(seed))
		var list []api.Write
		for i := range r.Intn(600) {
			list = append(list, api.Write{Key: named(r.Intn(300)), Val: fmt.Sprint(i), Gone: r.Intn(3) == 0})
		}
		var sorted []api.Write
		for i := range 300 {
			for _, w := range slices.Backward(list) {
				if w.Key == named(i) {
					sorted = append(sorted, w)
					break
				}
			}
		}
		if got := store.Sorted(list); !slices.Equal(got, sorted) {
			t.Fatalf("seed %d: %v, not %v", seed, got, sorted)
		}
	}
}

// P9.1
func TestNew(t *testing.T) {
	for _, seq := range []int{0, 1, 7, api.MaxSeq - 1, api.MaxSeq} {
		for what, base := range rightWrites() {
			s := of(t, seq, base...)
			wantBounds(t, s, seq, seq)
			if !slices.Equal(s.Base(seq), base) || s.Versions() != len(base) {
				t.Errorf("%s: %v, %d versions", what, s.Base(seq), s.Versions())
			}
			for _, w := range base {
				if val, is := s.Get(w.Key, seq); val != w.Val || !is {
					t.Errorf("%s: Get of %q: %q, %t", what, w.Key, val, is)
				}
			}
			if list, e := s.Since(seq); len(list) != 0 || e != api.OK {
				t.Errorf("%s: commits %v, %d", what, list, e)
			}
			if !s.Free(base, seq) {
				t.Errorf("%s: not free", what)
			}
		}
	}
}

// P9.1: a base has as many writes as there are, not a commit's most.
func TestNewOfMany(t *testing.T) {
	base := puts(5000)
	s := of(t, 3, base...)
	if !slices.Equal(s.Base(3), base) || s.Versions() != 5000 {
		t.Error(len(s.Base(3)), s.Versions())
	}
}

// P9.1
func TestNewWrong(t *testing.T) {
	wrong := func(what string, seq int, base []api.Write) {
		if s, e := store.New(seq, base); s != nil || e != api.ErrArg {
			t.Errorf("%s: %v, %d", what, s, e)
		}
	}
	for _, seq := range []int{math.MinInt, -1, api.MaxSeq + 1, math.MaxInt} {
		wrong(fmt.Sprint(seq), seq, nil)
	}
	for what, base := range wrongWrites() {
		wrong(what, 1, base)
	}
	wrong("gone", 1, []api.Write{gone("a")})
	wrong("the last is gone", 1, append(puts(300), gone("a")))
}

// P9.2
func TestCommit(t *testing.T) {
	for _, seq := range []int{0, 1, 7, api.MaxSeq - 1} {
		for what, list := range rightWrites() {
			s := of(t, seq)
			c := api.Commit{Seq: seq + 1, At: api.MaxTime, Writes: list}
			want(t, what, s.Commit(c), api.OK)
			wantBounds(t, s, seq, seq+1)
			got, e := s.Since(seq)
			if e != api.OK || len(got) != 1 || got[0].Seq != c.Seq || got[0].At != c.At || !slices.Equal(got[0].Writes, list) {
				t.Errorf("%s: %v, %d", what, got, e)
			}
			if !slices.Equal(s.Base(seq+1), list) || len(s.Base(seq)) != 0 {
				t.Errorf("%s: %v behind %v", what, s.Base(seq+1), s.Base(seq))
			}
		}
	}
}

// P9.2: of what is wrong nothing is told later.
func TestCommitWrong(t *testing.T) {
	s := of(t, 4, put("a", "0"), put("b", "0"))
	want(t, "Commit", s.Commit(api.Commit{Seq: 5, At: 10, Writes: []api.Write{put("a", "1"), gone("b")}}), api.OK)
	ahead := told(s, "a", "b", "c")
	wrong := func(what string, c api.Commit) {
		want(t, what, s.Commit(c), api.ErrArg)
		wantText(t, what, told(s, "a", "b", "c"), ahead)
	}
	some := []api.Write{put("c", "2")}
	for _, seq := range []int{math.MinInt, -1, 0, 1, 4, 5, 7, api.MaxSeq, api.MaxSeq + 1, math.MaxInt} {
		wrong(fmt.Sprint("Seq ", seq), api.Commit{Seq: seq, At: 10, Writes: some})
	}
	for _, at := range []int{math.MinInt, -1, 0, 9, api.MaxTime + 1, math.MaxInt} {
		wrong(fmt.Sprint("At ", at), api.Commit{Seq: 6, At: at, Writes: some})
	}
	for what, list := range wrongWrites() {
		wrong(what, api.Commit{Seq: 6, At: 10, Writes: list})
	}
	wrong("more than the most", api.Commit{Seq: 6, At: 10, Writes: puts(api.MaxWrites + 1)})
	want(t, "the right one", s.Commit(api.Commit{Seq: 6, At: 10, Writes: some}), api.OK)
}

// P9.2: behind commit MaxSeq there is none.
func TestCommitAtMaxSeq(t *testing.T) {
	s := of(t, api.MaxSeq-1, put("a", "0"))
	write(t, s, put("a", "1"))
	ahead := told(s, "a")
	for _, seq := range []int{api.MaxSeq - 1, api.MaxSeq, api.MaxSeq + 1} {
		want(t, "Commit", s.Commit(api.Commit{Seq: seq}), api.ErrArg)
	}
	wantText(t, "behind that", told(s, "a"), ahead)
	want(t, "Vacuum", s.Vacuum(api.MaxSeq), api.OK)
	want(t, "Commit", s.Commit(api.Commit{Seq: api.MaxSeq + 1}), api.ErrArg)
	wantBounds(t, s, api.MaxSeq, api.MaxSeq)
	wantText(t, "Range", line(s.Range("", "", api.MaxSeq)), "a=1")
}

// P9.2: a time may be that of the commit ahead, and isn't below it, as long as that is kept.
func TestTimes(t *testing.T) {
	s := of(t, 2)
	at := func(at int, e api.Errno) {
		t.Helper()
		want(t, fmt.Sprint("At ", at), s.Commit(api.Commit{Seq: s.Last() + 1, At: at}), e)
	}
	at(-1, api.ErrArg)
	at(api.MaxTime+1, api.ErrArg)
	at(5, api.OK) // commit 3
	at(5, api.OK)
	at(8, api.OK)
	at(7, api.ErrArg)
	at(5, api.ErrArg)
	want(t, "Vacuum", s.Vacuum(4), api.OK) // commit 5, at 8, is kept
	at(7, api.ErrArg)
	at(8, api.OK)
	at(api.MaxTime, api.OK)
	at(api.MaxTime-1, api.ErrArg)
	want(t, "Vacuum", s.Vacuum(7), api.OK) // none is kept
	at(-1, api.ErrArg)
	at(0, api.OK)
	at(0, api.OK)
	wantBounds(t, s, 7, 9)
}

// P9.3
func TestGetRangeBase(t *testing.T) {
	s := of(t, 3, put("a", "0"), put("b", "0"))
	write(t, s, put("a", "1"))               // 4
	write(t, s, gone("b"), put("c", ""))     // 5
	write(t, s)                              // 6
	write(t, s, gone("a"), gone("z"))        // 7: z never was
	write(t, s, put("b", "2"), put("c", "")) // 8
	lines := map[int]string{3: "a=0 b=0", 4: "a=1 b=0", 5: "a=1 c=", 6: "a=1 c=", 7: "c=", 8: "b=2 c="}
	for seq := 3; seq <= 8; seq++ {
		wantText(t, fmt.Sprint("Range behind ", seq), line(s.Range("", "", seq)), lines[seq])
		var parts []string
		for _, w := range s.Base(seq) {
			if w.Gone {
				t.Error("gone in Base:", w)
			}
			parts = append(parts, w.Key+"="+w.Val)
		}
		wantText(t, fmt.Sprint("Base behind ", seq), strings.Join(parts, " "), lines[seq])
		for _, key := range []string{"", "a", "a\x00", "b", "c", "d", "z"} {
			val, is := s.Get(key, seq)
			if is != slices.Contains(strings.Fields(lines[seq]), key+"="+val) || !is && val != "" {
				t.Errorf("Get of %q behind %d: %q, %t", key, seq, val, is)
			}
		}
	}
	if s.Versions() != 9 {
		t.Error(s.Versions(), "versions")
	}
}

// The chapter's example.
func TestExample(t *testing.T) {
	s := of(t, 0)
	write(t, s, put("a", "x"))
	write(t, s, gone("a"))
	if val, is := s.Get("a", 1); val != "x" || !is {
		t.Error("behind 1:", val, is)
	}
	if val, is := s.Get("a", 2); val != "" || is {
		t.Error("behind 2:", val, is)
	}
	want(t, "Vacuum", s.Vacuum(2), api.OK)
	if s.Versions() != 0 {
		t.Error(s.Versions(), "versions")
	}
}

// P9.3: the keys of a Range are from from on, and below to; all, if to is empty.
func TestRangeBounds(t *testing.T) {
	base := []api.Write{put("\x00", "0"), put("a", "1"), put("a\x00", "2"), put("ab", "3"), put("b", "4"), put("\x80", "5"), put("\xff", "6"), put("\xff\xff", "7")}
	s := of(t, 1, base...)
	write(t, s, gone("ab"))
	bounds := []string{"", "\x00", "\x00\x00", "a", "a\x00", "a\x00\x00", "aa", "ab", "b", "c", "\x80", "\xff", "\xff\xff", "\xff\xff\x00", strings.Repeat("\xff", 500)}
	for _, from := range bounds {
		for _, to := range bounds {
			for seq := 1; seq <= 2; seq++ {
				var parts []string
				for _, w := range base {
					if w.Key >= from && (to == "" || w.Key < to) && (seq == 1 || w.Key != "ab") {
						parts = append(parts, w.Key+"="+w.Val)
					}
				}
				wantText(t, fmt.Sprintf("from %q to %q behind %d", from, to, seq), line(s.Range(from, to, seq)), strings.Join(parts, " "))
			}
		}
	}
}

// P9.3: of many keys, of which some are gone, at each number of them.
func TestRangeOfMany(t *testing.T) {
	for n := range 200 {
		s := of(t, 0, puts(n)...)
		for i := 0; i < n; i += 3 {
			write(t, s, gone(named(i)))
		}
		var parts []string
		for i, w := range puts(n) {
			if i%3 != 0 {
				parts = append(parts, w.Key+"="+w.Val)
			}
		}
		wantText(t, fmt.Sprint(n, " keys"), line(s.Range("", "", s.Last())), strings.Join(parts, " "))
		if got := len(s.Base(0)); got != n {
			t.Errorf("%d keys: %d behind 0", n, got)
		}
		if got := len(s.Base(s.Last())); got != len(parts) {
			t.Errorf("%d keys: %d behind the last", n, got)
		}
	}
}

// P9.3, rule 5: a Range is left early, at each of its places; and nothing is told behind that.
func TestRangeLeftEarly(t *testing.T) {
	s := of(t, 0, puts(150)...)
	for stop := range 150 {
		var keys []string
		s.Range("", "", 0)(func(key, val string) bool {
			keys = append(keys, key)
			return len(keys) <= stop
		})
		if len(keys) != stop+1 || keys[stop] != named(stop) {
			t.Fatalf("left behind %d: %v", stop+1, keys)
		}
	}
}

// P9.3, rule 5: a Range is gone through again, within itself too, and pulled from.
func TestRangeAgain(t *testing.T) {
	s := of(t, 0, puts(100)...)
	ten := s.Range(named(60), named(70), 0)
	for key := range ten {
		if key == named(65) {
			break
		}
	}
	n := 0
	for range ten {
		for key, val := range ten {
			if key != named(60+n%10) || val != fmt.Sprint("v", 60+n%10) {
				t.Fatal(n, key, val)
			}
			n++
		}
	}
	if n != 100 {
		t.Error(n)
	}
	next, stop := iter.Pull2(ten)
	for i := range 5 {
		if key, _, is := next(); !is || key != named(60+i) {
			t.Error(key, is)
		}
	}
	stop()
}

// P9.3: whatever is committed, or vacuumed up to its commit, while a Range is gone through, it tells the same.
func TestRangeOfAStoreThatIsTurned(t *testing.T) {
	for _, from := range []int{0, 1, 2, 5, 40, 199} { // the key at which that begins
		s := of(t, 0, puts(200)...)
		write(t, s, put(named(3), "new"), gone(named(50)))
		seq := s.Last()
		told := line(s.Range("", "", seq))
		var parts []string
		for key, val := range s.Range("", "", seq) {
			parts = append(parts, key+"="+val)
			if i := len(parts) - 1; i >= from {
				write(t, s, gone(named(i)), put(named(i)+"x", ""), put(named(i+1)+"x", ""), gone(named(i+2)), put(named(i+3), "turned"), put(named(199-i/2)+"y", ""))
			}
			if len(parts) == 100 {
				want(t, "Vacuum", s.Vacuum(seq), api.OK)
			}
		}
		wantText(t, fmt.Sprint("turned from ", from), strings.Join(parts, " "), told)
		wantText(t, fmt.Sprint("turned from ", from, ", behind that"), line(s.Range("", "", seq)), told)
	}
}

// P9.3: a Range that was asked for ahead of commits tells the same behind them.
func TestRangeAheadOfCommits(t *testing.T) {
	s := of(t, 0, puts(10)...)
	seq := s.Range("", "", 0)
	told := line(seq)
	for i := range 10 {
		write(t, s, gone(named(i)), put("x", ""))
	}
	wantText(t, "behind commits", line(seq), told)
}

// P9.3: of other commits than Low to Last, all calls end, also while the store is turned; Get and Range tell nothing.
func TestOtherCommits(t *testing.T) {
	s := of(t, 5, puts(100)...)
	for range 5 {
		write(t, s, put("a", ""), gone(named(1)))
	}
	want(t, "Vacuum", s.Vacuum(7), api.OK)
	ahead := told(s, "a", named(1))
	for _, seq := range []int{math.MinInt, -1, 0, 4, 5, 6, 11, 12, api.MaxSeq, api.MaxSeq + 1, math.MaxInt} {
		for _, key := range []string{"", "a", named(0)} {
			if val, is := s.Get(key, seq); val != "" || is {
				t.Errorf("Get of %q behind %d: %q", key, seq, val)
			}
		}
		if got := line(s.Range("", "", seq)); got != "" || len(s.Base(seq)) != 0 {
			t.Errorf("behind %d: %q, %v", seq, got, s.Base(seq))
		}
		s.Free(puts(3), seq)
		s.Free(nil, seq)
	}
	wantText(t, "behind that", told(s, "a", named(1)), ahead)
	n := 0
	for range s.Range("", "", math.MaxInt) {
		if n++; n > 1000 {
			t.Fatal("no end")
		}
		write(t, s, put(named(1000+n), ""))
	}
	n = 0
	for range s.Range("", "", 8) {
		if n++; n > 101 {
			t.Fatal("no end")
		}
		write(t, s, put(named(2000+n), ""))
		want(t, "Vacuum", s.Vacuum(s.Last()), api.OK)
	}
}

// P9.3
func TestFree(t *testing.T) {
	s := of(t, 3, put("a", "0"), put("b", "0"), put("c", "0"))
	write(t, s, put("a", "1"))            // 4
	write(t, s, gone("b"), put("d", ""))  // 5
	write(t, s, gone("z"), put("a", "1")) // 6: z never was, a is what it was
	written := map[string]int{"a": 6, "b": 5, "d": 5, "z": 6}
	for seq := 3; seq <= 9; seq++ {
		for _, key := range []string{"", "a", "a\x00", "b", "c", "d", "e", "z"} {
			free := written[key] <= seq
			for what, w := range map[string]api.Write{"put": put(key, ""), "gone": gone(key), "any": {Key: key, Val: "x", Gone: true}} {
				if got := s.Free([]api.Write{w}, seq); got != free {
					t.Errorf("%s of %q behind %d: %t", what, key, seq, got)
				}
			}
			for _, list := range [][]api.Write{{put("c", ""), put(key, "")}, {put(key, ""), put("c", "")}, {put("e", ""), put(key, ""), put(key, ""), put("c", "")}} {
				if got := s.Free(list, seq); got != free {
					t.Errorf("%v behind %d: %t", list, seq, got)
				}
			}
		}
		if !s.Free(nil, seq) {
			t.Error("no writes behind", seq)
		}
	}
	if !s.Free(puts(3), math.MaxInt) {
		t.Error("behind all")
	}
}

// P9.3: what was let go, or came back, is written all the same behind a Vacuum ahead of it.
func TestFreeBehindVacuum(t *testing.T) {
	s := of(t, 0, put("a", "0"))
	write(t, s, gone("a"))     // 1
	write(t, s, put("b", "1")) // 2
	write(t, s, gone("b"))     // 3
	want(t, "Vacuum", s.Vacuum(2), api.OK)
	for key, free := range map[string]bool{"a": true, "b": false} {
		if got := s.Free([]api.Write{put(key, "")}, 2); got != free {
			t.Errorf("%s: %t", key, got)
		}
	}
	want(t, "Vacuum", s.Vacuum(3), api.OK)
	if !s.Free([]api.Write{put("a", ""), put("b", "")}, 3) {
		t.Error("behind the last")
	}
	write(t, s, gone("a")) // 4: it isn't there, and is written even so
	if s.Free([]api.Write{put("a", "")}, 3) || s.Versions() != 1 {
		t.Error("what was let go twice")
	}
}

// P9.3
func TestSince(t *testing.T) {
	s := of(t, 3, put("a", "0"))
	all := []api.Commit{
		{Seq: 4, At: 1, Writes: []api.Write{put("a", "1"), put("b", "1")}},
		{Seq: 5, At: 1},
		{Seq: 6, At: 7, Writes: []api.Write{gone("a"), gone("c")}},
		{Seq: 7, At: 9, Writes: []api.Write{put("a", "")}},
	}
	for _, c := range all {
		want(t, "Commit", s.Commit(c), api.OK)
	}
	for low := 3; low <= 7; low++ {
		want(t, "Vacuum", s.Vacuum(low), api.OK)
		for seq := low; seq <= 7; seq++ {
			list, e := s.Since(seq)
			if e != api.OK || fmt.Sprint(list) != fmt.Sprint(all[seq-3:]) {
				t.Errorf("since %d of %d: %v, %d", seq, low, list, e)
			}
		}
		for seq, e := range map[int]api.Errno{math.MinInt: api.ErrOld, -1: api.ErrOld, 0: api.ErrOld, low - 1: api.ErrOld, 8: api.ErrMark, 9: api.ErrMark, api.MaxSeq: api.ErrMark, math.MaxInt: api.ErrMark} {
			list, got := s.Since(seq)
			if want(t, fmt.Sprint("since ", seq, " of ", low), got, e); len(list) != 0 {
				t.Error("beside an error:", list)
			}
		}
	}
}

// P9.4
func TestVacuum(t *testing.T) {
	fill := func() *store.Store {
		s := of(t, 3, put("a", "0"), put("b", "0"), put("e", "0"))
		write(t, s, put("a", "1"))           // 4
		write(t, s, gone("b"), put("c", "")) // 5
		write(t, s, gone("z"))               // 6: it never was
		write(t, s, put("a", "2"), gone("c"))
		write(t, s, put("a", "3"), put("b", "3"))
		return s
	}
	versions := map[int]int{3: 3 + 8, 4: 3 + 7, 5: 3 + 5, 6: 3 + 4, 7: 2 + 2, 8: 3}
	for first := 3; first <= 8; first++ {
		for seq := first; seq <= 8; seq++ {
			s, whole := fill(), fill()
			want(t, "Vacuum", s.Vacuum(first), api.OK)
			want(t, "Vacuum", s.Vacuum(seq), api.OK)
			want(t, "Vacuum, again", s.Vacuum(seq), api.OK)
			wantBounds(t, s, seq, 8)
			if s.Versions() != versions[seq] {
				t.Errorf("of %d and %d: %d versions", first, seq, s.Versions())
			}
			for ; seq <= 8; seq++ {
				wantText(t, fmt.Sprint("behind ", seq), line(s.Range("", "", seq)), line(whole.Range("", "", seq)))
			}
		}
	}
}

// P9.4: of what is wrong nothing is told later.
func TestVacuumWrong(t *testing.T) {
	s := of(t, 3, put("a", "0"))
	write(t, s, put("a", "1"))
	write(t, s, put("a", "2"))
	wrong := func(seqs ...int) {
		ahead := told(s, "a")
		for _, seq := range seqs {
			want(t, fmt.Sprint("Vacuum of ", seq), s.Vacuum(seq), api.ErrArg)
			wantText(t, fmt.Sprint("behind Vacuum of ", seq), told(s, "a"), ahead)
		}
	}
	wrong(math.MinInt, -1, 0, 2, 6, api.MaxSeq, math.MaxInt)
	want(t, "Vacuum", s.Vacuum(5), api.OK)
	wrong(3, 4, 6)
}

// P9.4: a Vacuum of the last commit, and commits behind it.
func TestVacuumOfAll(t *testing.T) {
	s := of(t, 0)
	for i := range 50 {
		write(t, s, put(named(i%5), fmt.Sprint(i)))
		write(t, s, gone(named(i*3%5)))
		want(t, "Vacuum", s.Vacuum(s.Last()), api.OK)
		wantBounds(t, s, 2*i+2, 2*i+2)
		if n := len(s.Base(s.Last())); s.Versions() != n || n > 5 {
			t.Fatalf("%d versions of %d keys", s.Versions(), n)
		}
	}
}

// P9.3, P9.4: many keys, and one of them that many commits write.
func TestMany(t *testing.T) {
	const n = 30000
	s := of(t, 0, puts(n)...)
	for i := range n {
		write(t, s, put("hot", fmt.Sprint(i+1)))
	}
	if s.Versions() != 2*n {
		t.Error(s.Versions(), "versions")
	}
	for seq := 0; seq <= n; seq += n / 10 {
		want(t, "Vacuum", s.Vacuum(seq), api.OK)
		for _, at := range []int{seq, seq + 1, n - 1, n} {
			if val, is := s.Get("hot", at); at > 0 && at >= seq && at <= n && (val != fmt.Sprint(at) || !is) {
				t.Errorf("Get behind %d: %q, %t", at, val, is)
			}
		}
		if keys := n + min(seq, 1); s.Versions() != keys+n-seq || len(s.Base(seq)) != keys {
			t.Errorf("Vacuum of %d: %d versions, %d keys", seq, s.Versions(), len(s.Base(seq)))
		}
	}
}

// P9.4: a nil Store.
func TestNil(t *testing.T) {
	var s *store.Store
	wantBounds(t, s, 0, 0)
	for _, seq := range []int{math.MinInt, -1, 0, 1, math.MaxInt} {
		for _, key := range []string{"", "a"} {
			if val, is := s.Get(key, seq); val != "" || is {
				t.Error("Get:", val, is)
			}
		}
		if got := line(s.Range("", "", seq)); got != "" || len(s.Base(seq)) != 0 {
			t.Error("keys:", got, s.Base(seq))
		}
		if seq >= 0 && !(s.Free(nil, seq) && s.Free(puts(2), seq)) {
			t.Error("not free behind", seq)
		}
		want(t, "Vacuum", s.Vacuum(seq), api.ErrArg)
		want(t, "Commit", s.Commit(api.Commit{Seq: seq}), api.ErrArg)
	}
	for seq, e := range map[int]api.Errno{math.MinInt: api.ErrOld, -1: api.ErrOld, 0: api.OK, 1: api.ErrMark, math.MaxInt: api.ErrMark} {
		list, got := s.Since(seq)
		if want(t, fmt.Sprint("since ", seq), got, e); len(list) != 0 {
			t.Error(list)
		}
	}
	want(t, "Commit", s.Commit(api.Commit{Seq: 1, Writes: puts(1)}), api.ErrArg)
	if s.Versions() != 0 {
		t.Error(s.Versions())
	}
}

// The zero Store is as the one of no keys behind commit 0.
func TestZero(t *testing.T) {
	s := &store.Store{}
	wantText(t, "zero", told(s, "", "a"), told(of(t, 0), "", "a"))
	write(t, s, put("a", "1"))
	want(t, "Vacuum", s.Vacuum(1), api.OK)
	wantText(t, "Range", line(s.Range("", "", 1)), "a=1")
}

// Rule 4: what is handed in is neither changed nor kept.
func TestHandedIn(t *testing.T) {
	base, list := puts(20), []api.Write{put(named(3), "x"), gone(named(5)), put("a", "y")}
	wasBase, wasList := slices.Clone(base), slices.Clone(list)
	s := of(t, 0, base...)
	want(t, "Commit", s.Commit(api.Commit{Seq: 1, Writes: list}), api.OK)
	s.Free(list, 0)
	if !slices.Equal(base, wasBase) || !slices.Equal(list, wasList) {
		t.Error("changed:", base, list)
	}
	ahead := told(s, "a", named(3))
	for i := range base {
		base[i] = gone("base")
	}
	for i := range list {
		list[i] = gone("list")
	}
	wantText(t, "behind that", told(s, "a", named(3)), ahead)
}

// Rule 4: no two answers, and no two lists of one, share memory with each other or with the store.
func TestAnswersAreApart(t *testing.T) {
	s := of(t, 0, puts(20)...)
	for i := range 5 {
		write(t, s, put("a", fmt.Sprint(i)), gone("b"))
	}
	ahead := told(s, "a", named(3))
	list, _ := s.Since(1)
	base, other := s.Base(2), s.Base(2)
	text := fmt.Sprint(list)
	for i := range list {
		_ = append(list[i].Writes, put("c", "behind"))
	}
	wantText(t, "behind appends", fmt.Sprint(list), text)
	for i := range list {
		for j := range list[i].Writes {
			list[i].Writes[j] = gone("turned")
		}
		list[i].Seq = -1
	}
	for i := range base {
		base[i] = gone("turned")
	}
	wantText(t, "behind that", told(s, "a", named(3)), ahead)
	if !slices.Equal(other, s.Base(2)) {
		t.Error(other)
	}
	sorted := store.Sorted(other)
	sorted[0] = gone("turned")
	if !slices.Equal(other, s.Base(2)) {
		t.Error(other)
	}
}
