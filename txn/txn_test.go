package txn_test

import (
	"fmt"
	"iter"
	"math"
	"slices"
	"strings"
	"testing"

	"mailbag/api"
	"mailbag/ord"
	"mailbag/store"
	"mailbag/txn"
)

// put and gone are writes, in short.
func put(key, val string) api.Write { return api.Write{Key: key, Val: val} }

func gone(key string) api.Write { return api.Write{Key: key, Gone: true} }

// named is the key of a number; the keys have the numbers' order.
func named(i int) string { return fmt.Sprintf("%06d", i) }

// of is a store behind a commit.
func of(t *testing.T, seq int, base ...api.Write) *store.Store {
	t.Helper()
	s, e := store.New(seq, base)
	if e != api.OK || s == nil {
		t.Fatalf("New of %d: %v, %d", seq, s, e)
	}
	return s
}

// commit commits writes behind the last commit, at 0.
func commit(t *testing.T, s *store.Store, list ...api.Write) {
	t.Helper()
	want(t, "Commit", s.Commit(api.Commit{Seq: s.Last() + 1, Writes: store.Sorted(list)}), api.OK)
}

// do writes into a transaction.
func do(x *txn.Txn, w api.Write) api.Errno {
	if w.Gone {
		return x.Drop(w.Key)
	}
	return x.Put(w.Key, w.Val)
}

// write writes into a transaction, and holds all that to be taken.
func write(t *testing.T, x *txn.Txn, list ...api.Write) {
	t.Helper()
	for _, w := range list {
		want(t, fmt.Sprintf("the write of %q", w.Key), do(x, w), api.OK)
	}
}

// want holds an answer to be such an error.
func want(t *testing.T, what string, got, e api.Errno) {
	t.Helper()
	if got != e {
		t.Errorf("%s: %d, not %d", what, got, e)
	}
}

// wantText holds an answer to be such a text.
func wantText(t *testing.T, what, got, text string) {
	t.Helper()
	if got != text {
		t.Errorf("%s: %q, not %q", what, got, text)
	}
}

// wantGet holds a Get to tell such a value.
func wantGet(t *testing.T, x *txn.Txn, key, val string, is bool) {
	t.Helper()
	if v, there := x.Get(key); v != val || there != is {
		t.Errorf("Get of %q: %q, %t, not %q, %t", key, v, there, val, is)
	}
}

// line is what a sequence tells, as text.
func line(seq iter.Seq2[string, string]) string {
	var parts []string
	for key, val := range seq {
		parts = append(parts, key+"="+val)
	}
	return strings.Join(parts, " ")
}

// told is all that a transaction answers but its ID, as text; of some keys that aren't there, too.
func told(x *txn.Txn, keys ...string) string {
	var b strings.Builder
	fmt.Fprintln(&b, x.Snap(), x.Now(), line(x.Range("", "")), x.Writes())
	for _, key := range keys {
		val, is := x.Get(key)
		fmt.Fprintf(&b, "%q %q %t\n", key, val, is)
	}
	return b.String()
}

// The chapter's example.
func TestExample(t *testing.T) {
	x := txn.Begin(of(t, 0, put("a", "x")), 0, 1)
	write(t, x, put("b", "y"), gone("a"))
	wantText(t, "Range", line(x.Range("", "")), "b=y")
}

// P10.1
func TestBegin(t *testing.T) {
	for _, seq := range []int{0, 1, 7, api.MaxSeq - 1, api.MaxSeq} {
		for _, now := range []int{math.MinInt, -1, 0, 5, api.MaxTime, math.MaxInt} {
			x := txn.Begin(of(t, seq, put("a", "0")), now, 3)
			if x.Snap() != seq || x.Now() != now || len(x.Writes()) != 0 {
				t.Errorf("of %d, %d: %d, %d, %v", seq, now, x.Snap(), x.Now(), x.Writes())
			}
			wantText(t, "Range", line(x.Range("", "")), "a=0")
			wantGet(t, x, "a", "0", true)
		}
	}
}

// P10.1: it sees what was committed ahead of it, and nothing that is committed later, also behind a Vacuum up to its Snap.
func TestSeesItsSnap(t *testing.T) {
	s := of(t, 3, put("a", "0"), put("b", "0"), put("c", "0"))
	commit(t, s, put("a", "1"), gone("b"), put("d", "1")) // 4
	early := txn.Begin(s, 0, 1)
	ahead := told(early, "a", "b", "c", "d", "e")
	wantText(t, "Range", line(early.Range("", "")), "a=1 c=0 d=1")
	commit(t, s, put("a", "2"), put("b", "2"), gone("c"), put("e", "2")) // 5
	commit(t, s, gone("a"), put("d", "3"))                               // 6
	late := txn.Begin(s, 0, 2)
	wantText(t, "Range, late", line(late.Range("", "")), "b=2 d=3 e=2")
	wantText(t, "behind commits", told(early, "a", "b", "c", "d", "e"), ahead)
	for seq := 3; seq <= 4; seq++ {
		want(t, "Vacuum", s.Vacuum(seq), api.OK)
		wantText(t, fmt.Sprint("behind Vacuum of ", seq), told(early, "a", "b", "c", "d", "e"), ahead)
	}
	if early.Snap() != 4 || late.Snap() != 6 {
		t.Error(early.Snap(), late.Snap())
	}
}

// P10.1: behind a Vacuum above its Snap, all calls end, and what it wrote is told all the same.
func TestVacuumedAway(t *testing.T) {
	s := of(t, 0, put("a", "0"), put("b", "0"))
	x := txn.Begin(s, 0, 1)
	write(t, x, put("b", "1"), gone("a"))
	commit(t, s, put("a", "2"), put("c", "2"))
	want(t, "Vacuum", s.Vacuum(1), api.OK)
	for _, key := range []string{"a", "b", "c", "d"} {
		val, is := x.Get(key)
		if is != (key == "b") || is && val != "1" {
			t.Errorf("Get of %q: %q, %t", key, val, is)
		}
	}
	wantText(t, "Range", line(x.Range("", "")), "b=1")
	write(t, x, put("d", "3"))
	wantText(t, "Writes", fmt.Sprint(x.Writes()), fmt.Sprint([]api.Write{gone("a"), put("b", "1"), put("d", "3")}))
}

// P10.1: what is in the bounds of keys and values is written.
func TestBounds(t *testing.T) {
	key, val := strings.Repeat("k", api.MaxKey), strings.Repeat("v", api.MaxVal)
	x := txn.Begin(of(t, 0), 0, 1)
	list := []api.Write{put("\x00", "\x00"), put("a", ""), put(key, val), gone(strings.Repeat("l", api.MaxKey)), put("\xff", val)}
	write(t, x, list...)
	if got := x.Writes(); !slices.Equal(got, list) || !store.Right(got) {
		t.Error(len(got), "writes")
	}
	wantGet(t, x, "a", "", true)
	wantGet(t, x, key, val, true)
	wantGet(t, x, strings.Repeat("l", api.MaxKey), "", false)
}

// P10.1: of what is wrong nothing is told later.
func TestWrongWrites(t *testing.T) {
	long := strings.Repeat("k", api.MaxKey+1)
	s := of(t, 0, put("a", "0"), put("b", "0"))
	x := txn.Begin(s, 0, 1)
	write(t, x, put("a", "1"), gone("b"))
	keys := []string{"", "a", "b", "c", long}
	ahead := told(x, keys...)
	for what, e := range map[string]api.Errno{
		"Put of no key":            x.Put("", "1"),
		"Put of a long key":        x.Put(long, "1"),
		"Put of a very long key":   x.Put(strings.Repeat(long, 50), ""),
		"Put of a long value":      x.Put("c", strings.Repeat("v", api.MaxVal+1)),
		"Put of another value":     x.Put("a", strings.Repeat("v", api.MaxVal+1)),
		"Put of what was let go":   x.Put("b", strings.Repeat("v", 2*api.MaxVal)),
		"Put of none of the right": x.Put("", strings.Repeat("v", api.MaxVal+1)),
		"Drop of no key":           x.Drop(""),
		"Drop of a long key":       x.Drop(long),
	} {
		want(t, what, e, api.ErrArg)
	}
	wantText(t, "behind that", told(x, keys...), ahead)
	write(t, x, put("c", "1"))
}

// P10.1: MaxWrites keys are written, puts and drops, whether these are there or not; another one is ErrLong, and one of these isn't.
func TestMaxWrites(t *testing.T) {
	s := of(t, 0, put(named(0), "0"), put(named(1), "0"), put(named(7000), "0"))
	x := txn.Begin(s, 0, 1)
	for round := range 3 { // what is written again is no other key
		for i := range api.MaxWrites {
			w := put(named(i), fmt.Sprint(round))
			w.Gone = (i+round)%3 == 0
			if w.Gone {
				w.Val = ""
			}
			write(t, x, w)
		}
		ahead := told(x, named(0), named(1), named(5000), named(7000))
		want(t, "Put of another key", x.Put(named(5000), ""), api.ErrLong)
		want(t, "Put of another key that is there", x.Put(named(7000), "1"), api.ErrLong)
		want(t, "Drop of another key", x.Drop(named(5000)), api.ErrLong)
		want(t, "Drop of another key that is there", x.Drop(named(7000)), api.ErrLong)
		want(t, "Put of no key", x.Put("", ""), api.ErrArg)
		want(t, "Drop of a long key", x.Drop(strings.Repeat("k", api.MaxKey+1)), api.ErrArg)
		want(t, "Put of a long value", x.Put(named(5000), strings.Repeat("v", api.MaxVal+1)), api.ErrArg)
		want(t, "Put of a long value again", x.Put(named(3), strings.Repeat("v", api.MaxVal+1)), api.ErrArg)
		wantText(t, "behind that", told(x, named(0), named(1), named(5000), named(7000)), ahead)
	}
	if list := x.Writes(); len(list) != api.MaxWrites || !store.Right(list) {
		t.Error(len(list), "writes")
	}
}

// P10.1: at each number of keys below MaxWrites another one is taken, and none above.
func TestEachNumberOfWrites(t *testing.T) {
	x := txn.Begin(of(t, 0), 0, 1)
	for i := range api.MaxWrites + 20 {
		e := api.OK
		if i >= api.MaxWrites {
			e = api.ErrLong
		}
		want(t, fmt.Sprint("the key ", i), do(x, api.Write{Key: named(999 - i), Gone: i%2 == 0}), e)
		if got := len(x.Writes()); got != min(i+1, api.MaxWrites) {
			t.Fatal(got, "writes behind", i+1)
		}
	}
}

// P10.1: of each key what was written last, in order of the bytes of the keys.
func TestWrites(t *testing.T) {
	for _, c := range []struct{ list, writes []api.Write }{
		{nil, nil},
		{[]api.Write{put("a", "1")}, []api.Write{put("a", "1")}},
		{[]api.Write{gone("a")}, []api.Write{gone("a")}},
		{[]api.Write{put("a", "0")}, []api.Write{put("a", "0")}}, // what it sees anyway is written even so
		{[]api.Write{gone("z")}, []api.Write{gone("z")}},         // and so is what goes that never was
		{[]api.Write{put("a", "1"), put("a", "2")}, []api.Write{put("a", "2")}},
		{[]api.Write{put("a", "1"), gone("a")}, []api.Write{gone("a")}},
		{[]api.Write{put("q", "1"), gone("q")}, []api.Write{gone("q")}},
		{[]api.Write{gone("a"), put("a", "")}, []api.Write{put("a", "")}},
		{[]api.Write{put("a", "1"), gone("a"), put("a", "3"), gone("a"), gone("a")}, []api.Write{gone("a")}},
		{[]api.Write{put("c", "1"), gone("a"), put("b", "2"), put("c", "3")}, []api.Write{gone("a"), put("b", "2"), put("c", "3")}},
		{[]api.Write{put("\xff", ""), put("\x80", ""), put("a\x00", ""), gone("ab"), put("a", ""), put("B", ""), gone("\x00")}, []api.Write{gone("\x00"), put("B", ""), put("a", ""), put("a\x00", ""), gone("ab"), put("\x80", ""), put("\xff", "")}},
	} {
		x := txn.Begin(of(t, 0, put("a", "0"), put("b", "0")), 0, 1)
		write(t, x, c.list...)
		if got := x.Writes(); !slices.Equal(got, c.writes) {
			t.Errorf("of %v: %v, not %v", c.list, got, c.writes)
		}
	}
}

// P10.1, rule 4: what Writes answers is new memory, each time.
func TestWritesAreNew(t *testing.T) {
	x := txn.Begin(of(t, 0), 0, 1)
	write(t, x, put("a", "1"), gone("b"))
	ahead := told(x, "a", "b", "c")
	first, second := x.Writes(), x.Writes()
	first[0], first[1] = put("c", "2"), put("c", "3")
	if !slices.Equal(second, []api.Write{put("a", "1"), gone("b")}) {
		t.Error(second)
	}
	wantText(t, "behind that", told(x, "a", "b", "c"), ahead)
}

// P10.1, P10.2: transactions see nothing of what others write, and the store nothing of any.
func TestApart(t *testing.T) {
	s := of(t, 2, put("a", "0"), put("b", "0"))
	x, y, z := txn.Begin(s, 5, 1), txn.Begin(s, 5, 1), txn.Begin(s, 5, 1)
	write(t, x, put("a", "x"), gone("b"), put("x", "x"))
	write(t, y, gone("a"), put("b", "y"), put("y", "y"))
	wantText(t, "of the first", line(x.Range("", "")), "a=x x=x")
	wantText(t, "of the second", line(y.Range("", "")), "b=y y=y")
	wantText(t, "of the third", line(z.Range("", "")), "a=0 b=0")
	wantText(t, "of the store", line(s.Range("", "", 2)), "a=0 b=0")
	if s.Last() != 2 || s.Versions() != 2 || len(z.Writes()) != 0 {
		t.Error(s.Last(), s.Versions(), z.Writes())
	}
	want(t, "Commit", s.Commit(api.Commit{Seq: 3, Writes: x.Writes()}), api.OK)
	if s.Free(y.Writes(), y.Snap()) || !s.Free(z.Writes(), z.Snap()) {
		t.Error("of Free")
	}
	wantText(t, "of the first, committed", line(x.Range("", "")), "a=x x=x")
	wantText(t, "of the third, behind that", line(z.Range("", "")), "a=0 b=0")
	wantText(t, "of a new one", line(txn.Begin(s, 5, 1).Range("", "")), "a=x x=x")
}

// P10.2
func TestGet(t *testing.T) {
	s := of(t, 0, put("a", "0"), put("b", "0"), put("c", ""), put("d", "0"))
	commit(t, s, gone("d"))
	x := txn.Begin(s, 0, 1)
	for _, c := range []struct {
		w   api.Write // none: nothing is written
		key string
		val string
		is  bool
	}{
		{api.Write{}, "a", "0", true},
		{api.Write{}, "c", "", true},
		{api.Write{}, "d", "", false},
		{api.Write{}, "", "", false},
		{api.Write{}, "a\x00", "", false},
		{api.Write{}, strings.Repeat("k", 5000), "", false},
		{put("a", "1"), "a", "1", true},
		{put("a", ""), "a", "", true},
		{gone("a"), "a", "", false},
		{gone("a"), "a", "", false},
		{put("a", "2"), "a", "2", true},
		{gone("c"), "c", "", false},
		{put("d", "3"), "d", "3", true},
		{gone("d"), "d", "", false},
		{put("e", "4"), "e", "4", true},
		{api.Write{}, "b", "0", true},
		{gone("z"), "z", "", false},
		{put("z", "5"), "z", "5", true},
	} {
		if c.w.Key != "" {
			write(t, x, c.w)
		}
		wantGet(t, x, c.key, c.val, c.is)
	}
}

// P10.2: the keys of a Range are from from on, and below to; all, if to is empty: of what it wrote, and of what it sees.
func TestRangeBounds(t *testing.T) {
	keys := []string{"\x00", "a", "a\x00", "ab", "b", "c", "\x80", "\xff", "\xff\xff"}
	bounds := append([]string{"", "\x00\x00", "a\x00\x00", "aa", "d", "\xff\xff\x00", strings.Repeat("\xff", 500)}, keys...)
	for way := range 6 { // which keys are seen, written, written over, let go
		var base []api.Write
		all := map[string]string{}
		for i, key := range keys {
			if (i+way)%3 != 0 {
				base = append(base, put(key, "0"))
				all[key] = "0"
			}
		}
		x := txn.Begin(of(t, 1, base...), 0, 1)
		for i, key := range keys {
			switch (i + way) % 6 {
			case 0, 1:
				write(t, x, put(key, "1"))
				all[key] = "1"
			case 2, 3:
				write(t, x, gone(key))
				delete(all, key)
			}
		}
		for _, from := range bounds {
			for _, to := range bounds {
				wantText(t, fmt.Sprintf("%d, from %q to %q", way, from, to), line(x.Range(from, to)), asLine(all, from, to))
			}
		}
	}
}

// P10.2: what it wrote ahead of all, behind all, between and over what it sees, or alone; a key once.
func TestRangeOrder(t *testing.T) {
	for _, c := range []struct {
		base, writes []api.Write
		told         string
	}{
		{nil, nil, ""},
		{nil, []api.Write{gone("a")}, ""},
		{nil, []api.Write{put("b", "1"), put("a", "1"), put("c", "1")}, "a=1 b=1 c=1"},
		{[]api.Write{put("b", "0")}, []api.Write{put("a", "1")}, "a=1 b=0"},
		{[]api.Write{put("b", "0")}, []api.Write{put("b", "1")}, "b=1"},
		{[]api.Write{put("b", "0")}, []api.Write{put("b", "")}, "b="},
		{[]api.Write{put("b", "0")}, []api.Write{put("c", "1")}, "b=0 c=1"},
		{[]api.Write{put("b", "0")}, []api.Write{gone("a"), gone("b"), gone("c")}, ""},
		{[]api.Write{put("b", "0")}, []api.Write{gone("a"), gone("c")}, "b=0"},
		{[]api.Write{put("b", "0"), put("d", "0")}, []api.Write{put("c", "1")}, "b=0 c=1 d=0"},
		{[]api.Write{put("b", "0"), put("d", "0")}, []api.Write{put("a", "1"), put("b\x00", "1"), put("c", "1"), put("e", "1"), put("f", "1")}, "a=1 b=0 b\x00=1 c=1 d=0 e=1 f=1"},
		{[]api.Write{put("b", "0"), put("d", "0")}, []api.Write{gone("d"), put("b", "1")}, "b=1"},
		{[]api.Write{put("b", "0"), put("d", "0")}, []api.Write{gone("b"), put("b", "2"), put("d", "2"), gone("d")}, "b=2"},
		{[]api.Write{put("b", "0"), put("d", "0")}, []api.Write{gone("b"), put("c", "1"), gone("d")}, "c=1"},
	} {
		x := txn.Begin(of(t, 0, c.base...), 0, 1)
		write(t, x, c.writes...)
		wantText(t, fmt.Sprintf("%v over %v", c.writes, c.base), line(x.Range("", "")), c.told)
	}
}

// many is a transaction of many keys, some of which it sees, and some it wrote, and what it tells of them.
func many(t *testing.T) (*txn.Txn, []string) {
	t.Helper()
	var base []api.Write
	for i := range 300 {
		if i%4 != 1 {
			base = append(base, put(named(i), "0"))
		}
	}
	x := txn.Begin(of(t, 0, base...), 0, 1)
	var parts []string
	for i := range 300 {
		switch i % 4 {
		case 0:
			parts = append(parts, named(i)+"=0")
		case 1:
			write(t, x, put(named(i), "1"))
			parts = append(parts, named(i)+"=1")
		case 2:
			write(t, x, gone(named(i)))
		default:
			if i < 200 {
				write(t, x, put(named(i), "2"))
				parts = append(parts, named(i)+"=2")
			} else {
				parts = append(parts, named(i)+"=0")
			}
		}
	}
	return x, parts
}

// P10.2, rule 5: a Range is left early, at each of its places; and nothing is told behind that.
func TestRangeLeftEarly(t *testing.T) {
	x, parts := many(t)
	wantText(t, "all", line(x.Range("", "")), strings.Join(parts, " "))
	for stop := range parts {
		var got []string
		x.Range("", "")(func(key, val string) bool {
			got = append(got, key+"="+val)
			return len(got) <= stop
		})
		if !slices.Equal(got, parts[:stop+1]) {
			t.Fatalf("left behind %d: %v", stop+1, got)
		}
	}
	wantText(t, "behind that", line(x.Range("", "")), strings.Join(parts, " "))
}

// P10.2, rule 5: what it wrote alone, behind all that it sees, is left early, too.
func TestRangeLeftEarlyBehindAll(t *testing.T) {
	for _, base := range [][]api.Write{nil, {put("a", "0")}} {
		x := txn.Begin(of(t, 0, base...), 0, 1)
		write(t, x, put("b", "1"), gone("c"), put("d", "1"), put("e", "1"))
		n := 0
		for range x.Range("", "") {
			if n++; n == len(base)+2 {
				break
			}
		}
		if n != len(base)+2 {
			t.Error(n)
		}
	}
}

// P10.2, rule 5: a Range is gone through again, within itself too, and pulled from.
func TestRangeAgain(t *testing.T) {
	x, parts := many(t)
	some := x.Range(named(40), named(60))
	whole := line(some)
	for key := range some {
		if key >= named(50) {
			break
		}
	}
	if !strings.Contains(strings.Join(parts, " "), whole) || whole == "" {
		t.Error(whole)
	}
	n := 0
	for range some {
		wantText(t, "within itself", line(some), whole)
		n++
	}
	if n != len(strings.Fields(whole)) {
		t.Error(n)
	}
	next, stop := iter.Pull2(some)
	for _, part := range strings.Fields(whole)[:5] {
		key, val, is := next()
		if wantText(t, "pulled", key+"="+val, part); !is {
			t.Error("no more ahead of", part)
		}
	}
	stop()
}

// P10.2: a Range that was asked for ahead of writes tells these, too: it tells what Get does.
func TestRangeAheadOfWrites(t *testing.T) {
	x := txn.Begin(of(t, 0, put("a", "0"), put("b", "0")), 0, 1)
	seq := x.Range("a", "")
	wantText(t, "ahead", line(seq), "a=0 b=0")
	write(t, x, gone("a"), put("c", "1"))
	wantText(t, "behind", line(seq), "b=0 c=1")
}

// P10.1, P10.2: while a Range is gone through, others commit, and the store is vacuumed up to its Snap; it tells the same.
func TestRangeOfAStoreThatIsTurned(t *testing.T) {
	s := of(t, 0)
	for i := range 300 {
		commit(t, s, put(named(i), "0"))
	}
	x := txn.Begin(s, 0, 1)
	for i := 0; i < 300; i += 4 {
		write(t, x, put(named(i)+"w", "1"), gone(named(i+2)))
	}
	whole := line(x.Range("", ""))
	var got []string
	for key, val := range x.Range("", "") {
		got = append(got, key+"="+val)
		i := len(got)
		commit(t, s, gone(named(i)), put(named(i)+"x", ""), put(named(300-i), "turned"), put(key, "turned"))
		if i == 50 {
			want(t, "Vacuum", s.Vacuum(x.Snap()), api.OK)
		}
	}
	wantText(t, "turned", strings.Join(got, " "), whole)
	wantText(t, "behind that", line(x.Range("", "")), whole)
	if len(got) != 300 {
		t.Error(len(got), "keys")
	}
}

// P10.2, rule 1: whatever is written while a Range is gone through, that ends, and doesn't panic.
func TestRangeThatIsWrittenIn(t *testing.T) {
	for way := range 4 {
		x, _ := many(t)
		n := 0
		for key := range x.Range("", "") {
			if n++; n > 1000 {
				t.Fatal("no end")
			}
			switch way {
			case 0:
				x.Put(key+"x", "")
			case 1:
				x.Drop(key)
			case 2:
				x.Drop(named(n + 1))
			default:
				x.Put(named(300-n), "")
				x.Put(named(300+n), "")
			}
		}
	}
}

// P10.3
func TestID(t *testing.T) {
	x := txn.Begin(of(t, 3), 9, 5)
	snap, tag := "\x80\x00\x00\x00\x00\x00\x00\x03", "\x80\x00\x00\x00\x00\x00\x00\x05"
	for n := 1; n <= 600; n++ {
		count := string([]byte{128, 0, 0, 0, 0, 0, byte(n >> 8), byte(n)})
		wantText(t, fmt.Sprint("ID ", n), x.ID(), snap+tag+count)
	}
}

// P10.3: of whichever Snap and tag.
func TestIDOf(t *testing.T) {
	for _, seq := range []int{0, 1, 255, 256, api.MaxSeq} {
		for _, tag := range []int{math.MinInt, -256, -1, 0, 1, 255, 256, math.MaxInt} {
			x := txn.Begin(of(t, seq), 0, tag)
			for n := 1; n <= 3; n++ {
				var b []byte
				for _, part := range []int{seq, tag, n} {
					b = ord.Int(b, int64(part))
				}
				wantText(t, fmt.Sprint(seq, " ", tag, " ", n), x.ID(), string(b))
			}
		}
	}
}

// P10.3: IDs rise with Snap, then with the tag, then with each call, and none is made twice.
func TestIDsRise(t *testing.T) {
	s := of(t, 0)
	last := ""
	for range 3 {
		for _, tag := range []int{-300, -2, -1, 0, 1, 2, 255, 256, 70000} {
			x := txn.Begin(s, 0, tag)
			for range 300 {
				id := x.ID()
				if id <= last || len(id) != 24 {
					t.Fatalf("%q behind %q", id, last)
				}
				last = id
			}
		}
		commit(t, s)
	}
}

// P10.3: only calls of ID count, and they turn nothing else.
func TestIDAlone(t *testing.T) {
	s := of(t, 0, put("a", "0"))
	x, y := txn.Begin(s, 0, 1), txn.Begin(s, 0, 1)
	first := y.ID()
	write(t, x, put("a", "1"), gone("b"))
	x.Put("", "")
	ahead := told(x, "a", "b")
	commit(t, s, put("a", "2"))
	wantText(t, "the first", x.ID(), first)
	wantText(t, "behind that", told(x, "a", "b"), ahead)
	wantText(t, "the second", x.ID(), y.ID())
}

// P10.3: a nil Txn has nothing, and isn't turned.
func TestNil(t *testing.T) {
	var x *txn.Txn
	long := strings.Repeat("k", 5000)
	for range 2 {
		if x.Snap() != 0 || x.Now() != 0 || x.ID() != "" || len(x.Writes()) != 0 {
			t.Error(x.Snap(), x.Now(), x.ID(), x.Writes())
		}
		for _, key := range []string{"", "a", long} {
			wantGet(t, x, key, "", false)
			wantText(t, "Range", line(x.Range(key, ""))+line(x.Range("", key)), "")
			want(t, "Put", x.Put(key, "1"), api.ErrArg)
			want(t, "Put of a long value", x.Put(key, long), api.ErrArg)
			want(t, "Drop", x.Drop(key), api.ErrArg)
		}
	}
}

// P10.1: of a nil Store, which is one of no keys behind commit 0, a transaction sees nothing, and writes.
func TestOfNilStore(t *testing.T) {
	for what, x := range map[string]*txn.Txn{"of a nil Store": txn.Begin(nil, 0, 0), "that is its zero value": {}} {
		if x.Snap() != 0 || x.Now() != 0 || len(x.Writes()) != 0 {
			t.Error(what, x.Snap(), x.Now(), x.Writes())
		}
		wantGet(t, x, "a", "", false)
		wantText(t, what, line(x.Range("", "")), "")
		write(t, x, put("b", "1"), put("a", "1"), gone("c"))
		wantGet(t, x, "a", "1", true)
		wantText(t, what, line(x.Range("", "")), "a=1 b=1")
		wantText(t, what, x.ID(), string(ord.Int(ord.Int(ord.Int(nil, 0), 0), 1)))
	}
}
