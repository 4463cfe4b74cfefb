package hist_test

import (
	"fmt"
	"maps"
	"math"
	"math/rand"
	"slices"
	"strings"
	"testing"

	"mailbag/api"
	"mailbag/base"
	"mailbag/disk"
	"mailbag/hist"
	"mailbag/ord"
	"mailbag/queue"
	"mailbag/store"
	"mailbag/txn"
)

// want holds an error to be another one.
func want(t *testing.T, what string, got, is api.Errno) {
	t.Helper()
	if got != is {
		t.Errorf("%s: error %d, not %d", what, got, is)
	}
}

// message is a message by its id.
func message(id, body string, ready, count int, token string) queue.Message {
	return queue.Message{ID: id, Body: body, Ready: ready, Count: count, Token: token}
}

// put is what keeps a message in a queue.
func put(name string, m queue.Message) api.Write {
	return api.Write{Key: queue.Place(name, m.ID), Val: m.Encode()}
}

// gone is what lets a message go from a queue.
func gone(name, id string) api.Write {
	return api.Write{Key: queue.Place(name, id), Gone: true}
}

// commits are commits of these writes, from 1 on, at 10, 20, ..
func commits(writes ...[]api.Write) []api.Commit {
	var list []api.Commit
	for i, w := range writes {
		list = append(list, api.Commit{Seq: i + 1, At: 10 * (i + 1), Writes: w})
	}
	return list
}

// lines is events, each on a line.
func lines(list []hist.Event) string {
	var b strings.Builder
	for _, x := range list {
		fmt.Fprintf(&b, "%+v\n", x)
	}
	return b.String()
}

// wantEvents holds the events of commits to be these.
func wantEvents(t *testing.T, what string, list []api.Commit, is ...hist.Event) {
	t.Helper()
	got, e := hist.Events(list)
	want(t, what, e, api.OK)
	if lines(got) != lines(is) {
		t.Errorf("%s:\n%snot\n%s", what, lines(got), lines(is))
	}
}

// P20.1: a message comes, turns, is in another queue, goes, and is told of each time.
func TestEvents(t *testing.T) {
	a, b, c := message("1", "x", 10, 0, ""), message("1", "x", 25, 1, "t"), message("1", "x", 30, 0, "")
	o := message("0", "y", 20, 0, "")
	list := commits([]api.Write{put("q", a)}, []api.Write{put("q", b), put("q", o)}, []api.Write{put("d", c), gone("q", "1")}, []api.Write{gone("d", "1")}, nil)
	wantEvents(t, "all", list,
		hist.Event{Seq: 1, At: 10, ID: "1", To: "q", New: a},
		hist.Event{Seq: 2, At: 20, ID: "0", To: "q", New: o},
		hist.Event{Seq: 2, At: 20, ID: "1", From: "q", To: "q", Old: a, New: b},
		hist.Event{Seq: 3, At: 30, ID: "1", From: "q", To: "d", Old: b, New: c},
		hist.Event{Seq: 4, At: 40, ID: "1", From: "d", Old: c},
	)
	wantEvents(t, "of others", []api.Commit{{Seq: 7, At: 3, Writes: []api.Write{put("q", a)}}, {Seq: 5, At: 2, Writes: []api.Write{put("q", b)}}},
		hist.Event{Seq: 7, At: 3, ID: "1", To: "q", New: a},
		hist.Event{Seq: 5, At: 2, ID: "1", From: "q", To: "q", Old: a, New: b},
	)
	wantEvents(t, "none", nil)
	wantEvents(t, "of nothing", commits(nil, nil))
}

// P20.1: none, if all is the same; each part of a message tells.
func TestSame(t *testing.T) {
	a := message("1", "x", 10, 1, "t")
	first := hist.Event{Seq: 1, At: 10, ID: "1", To: "q", New: a}
	wantEvents(t, "the same again", commits([]api.Write{put("q", a)}, []api.Write{put("q", a)}), first)
	wantEvents(t, "there and back", commits([]api.Write{put("q", a)}, []api.Write{gone("q", "1"), put("q", a)}), first)
	wantEvents(t, "turned and back", commits([]api.Write{put("q", a)}, []api.Write{put("q", message("1", "y", 1, 1, "")), put("q", a)}), first)
	wantEvents(t, "came and went", commits([]api.Write{put("q", a), gone("q", "1")}))
	wantEvents(t, "was never there", commits([]api.Write{gone("q", "1")}))
	for what, b := range map[string]queue.Message{"Body": message("1", "y", 10, 1, "t"), "Ready": message("1", "x", 11, 1, "t"), "Count": message("1", "x", 10, 2, "t"), "Token": message("1", "x", 10, 1, "")} {
		list := commits([]api.Write{put("q", a)}, []api.Write{put("q", b)})
		wantEvents(t, what, list, first, hist.Event{Seq: 2, At: 20, ID: "1", From: "q", To: "q", Old: a, New: b})
	}
	list := commits([]api.Write{put("q", a)}, []api.Write{gone("q", "1"), put("r", a)})
	wantEvents(t, "the queue", list, first, hist.Event{Seq: 2, At: 20, ID: "1", From: "q", To: "r", Old: a, New: a})
}

// P20.1: writes are gone through in order; what is Gone takes a message away just from where it is.
func TestOrderOfWrites(t *testing.T) {
	a, b := message("1", "x", 10, 0, ""), message("1", "x", 30, 0, "")
	came := hist.Event{Seq: 1, At: 10, ID: "1", To: "q", New: a}
	moved := hist.Event{Seq: 2, At: 20, ID: "1", From: "q", To: "d", Old: a, New: b}
	stays := hist.Event{Seq: 2, At: 20, ID: "1", From: "q", To: "q", Old: a, New: b}
	went := hist.Event{Seq: 2, At: 20, ID: "1", From: "q", Old: a}
	for i, x := range []struct {
		writes []api.Write
		is     []hist.Event
	}{
		{[]api.Write{put("d", b), gone("q", "1")}, []hist.Event{came, moved}},
		{[]api.Write{gone("q", "1"), put("d", b)}, []hist.Event{came, moved}},
		{[]api.Write{put("d", b)}, []hist.Event{came, moved}},
		{[]api.Write{gone("d", "1"), put("q", b)}, []hist.Event{came, stays}},
		{[]api.Write{put("q", b), gone("d", "1")}, []hist.Event{came, stays}},
		{[]api.Write{put("d", a), put("q", b)}, []hist.Event{came, stays}},
		{[]api.Write{put("d", b), gone("d", "1")}, []hist.Event{came, went}},
		{[]api.Write{put("d", b), gone("q", "1"), gone("d", "1")}, []hist.Event{came, went}},
		{[]api.Write{gone("q", "1"), gone("d", "1")}, []hist.Event{came, went}},
		{[]api.Write{gone("d", "1")}, []hist.Event{came}},
		{[]api.Write{gone("", "1")}, []hist.Event{came}},
		{[]api.Write{gone("q", "2"), gone("q", "")}, []hist.Event{came}},
	} {
		wantEvents(t, fmt.Sprint(i), commits([]api.Write{put("q", a)}, x.writes), x.is...)
	}
}

// P20.1: in order of the ids, byte by byte, whatever their queues.
func TestOrderOfIDs(t *testing.T) {
	ids := []string{"", "\x00", "\x00\xff", "\x01", "1", "10", "2", "\xff"}
	var writes []api.Write
	var is []hist.Event
	for i, id := range ids {
		m, name := message(id, "x", 1, 0, ""), []string{"z", "a", "m"}[i%3]
		writes = append(writes, put(name, m))
		is = append(is, hist.Event{Seq: 1, At: 10, ID: id, To: name, New: m})
	}
	for seed := range int64(9) {
		rand.New(rand.NewSource(seed)).Shuffle(len(writes), func(i, k int) { writes[i], writes[k] = writes[k], writes[i] })
		wantEvents(t, "shuffled", commits(writes), is...)
	}
}

// P20.1: keys of others are none of a message's, whatever is kept there.
func TestOtherKeys(t *testing.T) {
	m := message("1", "x", 1, 0, "")
	for _, key := range []string{
		"", "m", "\x00", ord.Key("m"), ord.Key("m", "q"), ord.Key("m", "q", "1", "x"), ord.Key("m", "q", "1", ""), ord.Key("M", "q", "1"), ord.Key("mm", "q", "1"), ord.Key("", "q", "1"),
		ord.Key("q", "q", "1"), ord.Key("d", "m", "1"), ord.Key("m", "q") + "1", ord.Key("m", "q") + "1\x00", ord.Key("m", "q") + "1\x00\x02", ord.Key("m", "q", "1") + "x", "x" + ord.Key("m", "q", "1"), ord.Key("m", "q", "1")[1:],
	} {
		for _, kept := range []string{m.Encode(), "", "\xff"} {
			wantEvents(t, fmt.Sprintf("%q", key), commits([]api.Write{{Key: key, Val: kept}, put("p", m)}, []api.Write{{Key: key, Gone: true}}), hist.Event{Seq: 1, At: 10, ID: "1", To: "p", New: m})
		}
	}
	m.ID = "\x00\xff\x00"
	wantEvents(t, "bytes 0", commits([]api.Write{put("a\x00b", m)}), hist.Event{Seq: 1, At: 10, ID: m.ID, To: "a\x00b", New: m})
}

// P20.1: ErrBad, where a message can't be read, wherever that is.
func TestErrBad(t *testing.T) {
	right := message("1", "x", 1, 1, "t").Encode()
	for _, kept := range []string{"", "\xff", right[:len(right)-1], right + "\x00", "\x01" + right, message("1", "x", 2*api.MaxTime+1, 0, "").Encode(), message("1", "x", 0, 1001, "").Encode(), message("1", "x", 0, 1, strings.Repeat("t", api.MaxKey+1)).Encode(), message("1", strings.Repeat("x", queue.MaxBody+1), 0, 1, "").Encode()} {
		bad := api.Write{Key: queue.Place("q", "2"), Val: kept}
		for _, writes := range [][]api.Write{{bad}, {put("q", message("1", "x", 1, 0, "")), bad}, {bad, gone("q", "2")}, {bad, put("q", message("2", "x", 1, 0, ""))}} {
			for i := range 3 {
				list := commits([]api.Write{put("q", message("1", "x", 1, 0, ""))}, nil, nil)
				list[i].Writes = writes
				if got, e := hist.Events(list); e != api.ErrBad || len(got) != 0 {
					t.Errorf("%q: %d, %v", kept, e, got)
				}
			}
		}
		bad.Gone = true // then nothing is kept
		wantEvents(t, "gone", commits([]api.Write{bad}))
	}
	longest := message("1", strings.Repeat("x", queue.MaxBody), 2*api.MaxTime, 1000, strings.Repeat("t", api.MaxKey))
	wantEvents(t, "as much as may be", commits([]api.Write{put("q", longest)}), hist.Event{Seq: 1, At: 10, ID: "1", To: "q", New: longest})
}

// Rule 4: what is handed in stays, and each answer is new.
func TestMemory(t *testing.T) {
	list := commits([]api.Write{put("q", message("1", "x", 1, 0, ""))}, []api.Write{gone("q", "1")})
	is := fmt.Sprint(list)
	one, _ := hist.Events(list)
	other, _ := hist.Events(list)
	one[0] = hist.Event{}
	if fmt.Sprint(list) != is || other[0].ID != "1" {
		t.Error("turned")
	}
	counts := hist.Leases([]hist.Event{{ID: "1", New: queue.Message{Token: "t"}}})
	counts["1"] = 5
	if hist.Leases([]hist.Event{{ID: "1", New: queue.Message{Token: "t"}}})["1"] != 1 {
		t.Error("turned")
	}
}

// token is a message with a token, Ready then.
func token(s string, ready int) queue.Message { return queue.Message{Token: s, Ready: ready} }

// P20.2: Sound.
func TestSound(t *testing.T) {
	came := hist.Event{ID: "1", To: "q"}
	went := hist.Event{ID: "1", From: "q"}
	moved := hist.Event{ID: "1", From: "q", To: "d"}
	both := hist.Event{ID: "1"}
	other := hist.Event{ID: "2", To: "q"}
	lease := func(at int, old, is queue.Message) hist.Event {
		return hist.Event{ID: "1", From: "q", To: "q", At: at, Old: old, New: is}
	}
	left := func(x hist.Event) hist.Event {
		x.To = ""
		return x
	}
	none := queue.Message{}
	for i, x := range []struct {
		is   bool
		list []hist.Event
	}{
		{true, nil},
		{true, []hist.Event{came}},
		{true, []hist.Event{came, went}},
		{true, []hist.Event{came, moved, moved, went}},
		{true, []hist.Event{came, other, went}},
		{true, []hist.Event{both}},
		{true, []hist.Event{moved}}, // where it came isn't asked
		{true, []hist.Event{came, went, moved}},
		{true, []hist.Event{moved, came, went}},
		{false, []hist.Event{came, came}},
		{false, []hist.Event{came, went, came}},
		{false, []hist.Event{came, went, went}},
		{false, []hist.Event{came, moved, came}},
		{false, []hist.Event{went}},
		{false, []hist.Event{went, came}},
		{false, []hist.Event{moved, went}},
		{false, []hist.Event{other, went}},
		{false, []hist.Event{both, went}},
		{false, []hist.Event{both, came}},
		{false, []hist.Event{both, both}},
		{false, []hist.Event{came, both}},
		{false, []hist.Event{came, other, other}},
		// leases
		{true, []hist.Event{lease(10, none, token("t", 20))}},
		{true, []hist.Event{lease(10, token("", 99), token("t", 20))}},
		{true, []hist.Event{lease(10, token("s", 10), token("t", 20))}},
		{true, []hist.Event{lease(10, token("s", 9), token("t", 20))}},
		{false, []hist.Event{lease(10, token("s", 11), token("t", 20))}},
		{false, []hist.Event{lease(10, token("s", math.MaxInt), token("t", 20))}},
		{false, []hist.Event{lease(-1, token("s", 0), token("t", 20))}},
		{true, []hist.Event{lease(10, token("t", 11), token("t", 20))}},
		{true, []hist.Event{lease(10, token("t", 11), token("", 20))}},
		{true, []hist.Event{lease(10, token("t", 11), none)}},
		{true, []hist.Event{came, left(lease(10, token("s", 11), token("t", 20)))}},
		{true, []hist.Event{came, lease(10, none, token("t", 20)), lease(20, token("t", 20), token("u", 30)), went}},
		{false, []hist.Event{came, lease(10, none, token("t", 20)), lease(19, token("t", 20), token("u", 30)), went}},
		{false, []hist.Event{{ID: "1", To: "q", At: 10, Old: token("s", 11), New: token("t", 20)}}},
		{true, []hist.Event{{ID: "1", To: "q", At: 10, New: token("t", 20)}}},
	} {
		if got := hist.Sound(x.list); got != x.is {
			t.Errorf("%d: %t: %s", i, got, lines(x.list))
		}
	}
}

// P20.2: Leases counts new tokens, by ids.
func TestLeases(t *testing.T) {
	event := func(id string, old, is string) hist.Event {
		return hist.Event{ID: id, From: "q", To: "q", Old: token(old, 99), New: token(is, 1)}
	}
	for i, x := range []struct {
		list []hist.Event
		is   map[string]int
	}{
		{nil, nil},
		{[]hist.Event{event("1", "", "t")}, map[string]int{"1": 1}},
		{[]hist.Event{event("1", "", "")}, nil},
		{[]hist.Event{event("1", "t", "")}, nil},
		{[]hist.Event{event("1", "t", "t")}, nil},
		{[]hist.Event{event("1", "t", "u"), event("2", "", "t"), event("", "", "t"), event("1", "", "t"), event("1", "t", "t")}, map[string]int{"1": 2, "2": 1, "": 1}},
		{[]hist.Event{{ID: "1", New: token("t", 1)}}, map[string]int{"1": 1}},
	} {
		if got := hist.Leases(x.list); !maps.Equal(got, x.is) {
			t.Errorf("%d: %v, not %v", i, got, x.is)
		}
	}
}

// Example 1: sent, taken, acked in three commits: three events, Sound, one lease.
func TestExample(t *testing.T) {
	b, e := base.Open(disk.New(1 << 20))
	want(t, "Open", e, api.OK)
	tag := 0
	do := func(turn func(x *txn.Txn) api.Errno) {
		t.Helper()
		tag++
		x := txn.Begin(b.Store(), 10, tag)
		want(t, "turn", turn(x), api.OK)
		_, e := b.Commit(x.Writes(), x.Snap(), x.Now())
		want(t, "Commit", e, api.OK)
	}
	do(func(x *txn.Txn) api.Errno { return queue.Make(x, queue.Queue{Name: "q", Max: 1}) })
	var m queue.Message
	do(func(x *txn.Txn) (e api.Errno) { m.ID, e = queue.Send(x, "q", "body", 0); return })
	do(func(x *txn.Txn) (e api.Errno) {
		m, e = queue.Take(x, "q", 5, func(string) bool { return false })
		return
	})
	do(func(x *txn.Txn) api.Errno { return queue.Ack(x, "q", m.ID, m.Token) })
	list, e := b.Store().Since(0)
	want(t, "Since", e, api.OK)
	events, e := hist.Events(list)
	want(t, "Events", e, api.OK)
	if len(events) != 3 || !hist.Sound(events) || !maps.Equal(hist.Leases(events), map[string]int{m.ID: 1}) {
		t.Error(lines(events))
	}
	if events[1].New != m || events[2].Old != m || events[0].Seq != 2 || events[2].Seq != 4 {
		t.Error(lines(events))
	}
}

// kept is where messages are, one by one.
type kept map[string]hist.Event

// naive is the events of commits, with all that is kept copied ahead of each.
func naive(list []api.Commit) []hist.Event {
	var events []hist.Event
	now := kept{}
	for _, c := range list {
		was := maps.Clone(now)
		for _, w := range c.Writes {
			parts, e := ord.Parts(w.Key)
			if e != api.OK || len(parts) != 3 || parts[0] != "m" {
				continue
			}
			if x, is := now[parts[2]]; w.Gone && is && x.To == parts[1] {
				delete(now, parts[2])
			} else if !w.Gone {
				m, _ := queue.Decode(parts[2], w.Val)
				now[parts[2]] = hist.Event{To: parts[1], New: m}
			}
		}
		ids := map[string]int{}
		for _, one := range []kept{was, now} {
			for id := range one {
				ids[id]++
			}
		}
		for _, id := range slices.Sorted(maps.Keys(ids)) {
			if o, n := was[id], now[id]; o != n {
				events = append(events, hist.Event{Seq: c.Seq, At: c.At, ID: id, From: o.To, To: n.To, Old: o.New, New: n.New})
			}
		}
	}
	return events
}

// P20.1: of any commits, in any order of their writes.
func TestRandomEvents(t *testing.T) {
	for seed := range int64(300) {
		r := rand.New(rand.NewSource(seed))
		one := func(list ...string) string { return list[r.Intn(len(list))] }
		var list []api.Commit
		for i := range 20 {
			var writes []api.Write
			for range r.Intn(5) {
				m := message(one("1", "2", "3"), one("x", "y"), r.Intn(2), r.Intn(2), one("", "t"))
				w := put(one("q", "d"), m)
				switch r.Intn(6) {
				case 0, 1:
					w = api.Write{Key: w.Key, Gone: true}
				case 2:
					w.Key = one("", "m", ord.Key("m", "q"), ord.Key("d", "q", "1"))
				}
				writes = append(writes, w)
			}
			if r.Intn(2) == 0 {
				writes = store.Sorted(writes)
			}
			list = append(list, api.Commit{Seq: i + 1, At: i, Writes: writes})
		}
		wantEvents(t, fmt.Sprint("seed ", seed), list, naive(list)...)
	}
}
