package broker_test

import (
	"fmt"
	"math"
	"slices"
	"strings"
	"testing"

	"mailbag/api"
	"mailbag/base"
	"mailbag/broker"
	"mailbag/disk"
	"mailbag/ord"
	"mailbag/queue"
	"mailbag/rec"
	"mailbag/schema"
	"mailbag/store"
	"mailbag/val"
	"mailbag/wire"
)

// want holds an error to be another one.
func want(t *testing.T, what string, got, is api.Errno) {
	t.Helper()
	if got != is {
		t.Errorf("%s: error %d, not %d", what, got, is)
	}
}

// wantNum holds a number to be another one.
func wantNum(t *testing.T, what string, got, is int) {
	t.Helper()
	if got != is {
		t.Errorf("%s: %d, not %d", what, got, is)
	}
}

// wantText holds a text to be another one.
func wantText(t *testing.T, what, got, is string) {
	t.Helper()
	if got != is {
		t.Errorf("%s: %q\nnot %q", what, got, is)
	}
}

// wantAnswer holds an answer to be another one.
func wantAnswer(t *testing.T, what string, got, is wire.Answer) {
	t.Helper()
	if !got.Same(is) {
		t.Errorf("%s: %d, %d, %q\nnot %d, %d, %q", what, got.E, got.N, got.Texts, is.E, is.N, is.Texts)
	}
}

// over is a broker of a disk, at a time.
func over(t *testing.T, d *disk.Disk, now int) *broker.Broker {
	t.Helper()
	b, e := broker.Start(d, now)
	if e != api.OK {
		t.Fatal("Start", e)
	}
	return b
}

// fresh is a broker of an empty disk, at 10.
func fresh(t *testing.T) *broker.Broker {
	t.Helper()
	return over(t, disk.New(disk.MaxRoom), 10)
}

// bytesOf is a question's bytes.
func bytesOf(t *testing.T, a wire.Ask) string {
	t.Helper()
	s, e := a.Encode()
	if e != api.OK {
		t.Fatal(a, e)
	}
	return s
}

// ask asks, and holds the answer's error to be another one; beside an error there is nothing.
func ask(t *testing.T, b *broker.Broker, session int, a wire.Ask, e api.Errno) wire.Answer {
	t.Helper()
	w := b.Do(session, bytesOf(t, a))
	want(t, fmt.Sprint("session ", session, " asks ", a), w.E, e)
	if w.E != api.OK {
		wantAnswer(t, "beside an error", w, wire.Fail(w.E))
	}
	return w
}

// asks lets a session ask, one behind the other, what is all answered by OK.
func asks(t *testing.T, b *broker.Broker, session int, list ...wire.Ask) wire.Answer {
	t.Helper()
	var w wire.Answer
	for _, a := range list {
		w = ask(t, b, session, a, api.OK)
	}
	return w
}

// begin, commit, abort are what is asked without more.
var begin, commit, abort = wire.Ask{Op: wire.Begin}, wire.Ask{Op: wire.Commit}, wire.Ask{Op: wire.Abort}

// once lets session 15 ask in a transaction of its own, that is committed; what the last one of these was answered.
func once(t *testing.T, b *broker.Broker, list ...wire.Ask) wire.Answer {
	t.Helper()
	asks(t, b, 15, begin)
	w := asks(t, b, 15, list...)
	asks(t, b, 15, commit)
	return w
}

// code is a value's bytes.
func code(t *testing.T, v val.Val) string {
	t.Helper()
	s, e := v.Encode()
	if e != api.OK {
		t.Fatal(v, e)
	}
	return s
}

// num is a number's bytes.
func num(t *testing.T, n int64) string {
	t.Helper()
	return code(t, val.OfInt(n))
}

// doc is the bytes of {n: n}.
func doc(t *testing.T, n int64) string {
	t.Helper()
	return code(t, val.OfMap(val.Field{Name: "n", Val: val.OfInt(n)}))
}

// coll is c, with the index i of n, and the index u of u that has each value once.
func coll() schema.Coll {
	return schema.Coll{Name: "c", Indexes: []schema.Index{{Name: "i", Field: "n"}, {Name: "u", Field: "u", Unique: true}}}
}

// makes are what makes the collection c, the queue q (2 times, then to the queue d), and the queue d.
func makes() []wire.Ask {
	return []wire.Ask{
		{Op: wire.MakeColl, A: "c", B: coll().Encode()},
		{Op: wire.MakeQueue, A: "q", N: 2, B: "d"},
		{Op: wire.MakeQueue, A: "d", N: 1},
	}
}

// made is a broker at 10 with these, behind commit 1.
func made(t *testing.T) *broker.Broker {
	t.Helper()
	b := fresh(t)
	once(t, b, makes()...)
	return b
}

// idOf is the id that a transaction made so many times.
func idOf(snap, tag, n int64) string {
	return string(ord.Int(ord.Int(ord.Int(nil, snap), tag), n))
}

// stateOf is all that a store tells, as bytes.
func stateOf(t *testing.T, s *store.Store) string {
	t.Helper()
	text, e := rec.Of(s).Encode()
	if e != api.OK {
		t.Fatal("state", e)
	}
	return text
}

// wantNone holds a broker not to have been started.
func wantNone(t *testing.T, what string, d *disk.Disk, now int, e api.Errno) {
	t.Helper()
	b, got := broker.Start(d, now)
	want(t, what, got, e)
	if b != nil {
		t.Errorf("%s: a broker", what)
	}
}

// P19.1: Start.
func TestStart(t *testing.T) {
	for _, now := range []int{math.MinInt, -1, api.MaxTime + 1, math.MaxInt} {
		d := disk.New(100)
		want(t, "Append", d.Append("next", "x"), api.OK)
		wantNone(t, fmt.Sprint("at ", now), d, now, api.ErrArg)
		wantText(t, "what is kept", strings.Join(d.Names(), " "), "next")
		d.Fall(0)
		wantNone(t, "without power", d, now, api.ErrArg)
		wantNone(t, "without a disk", nil, now, api.ErrArg)
	}
	wantNone(t, "without a disk", nil, 0, api.ErrArg)
	down := disk.New(100)
	down.Fall(0)
	wantNone(t, "without power", down, 0, api.ErrDown)
	for _, name := range []string{"state", "log"} {
		d := disk.New(100)
		want(t, "Append", d.Append(name, "\x00\x00\x00\x00"), api.OK)
		_, is := base.Open(d.Clone())
		if name == "state" {
			want(t, "Open", is, api.ErrBad)
			wantNone(t, "of what can't be read", d, 0, is)
		}
	}
	for _, now := range []int{0, 1, 10, api.MaxTime} {
		b := over(t, disk.New(0), now)
		wantNum(t, "Now", b.Now(), now)
		wantNum(t, "Last", b.Store().Last(), 0)
		wantNum(t, "Horizon", b.Horizon(), 0)
		for session := range broker.MaxSessions {
			if b.Open(session) {
				t.Error("open", session)
			}
		}
	}
	wantNum(t, "MaxSessions", broker.MaxSessions, 16)
	wantNum(t, "MaxRows", broker.MaxRows, 100)
}

// P19.1: a broker has its Base's calls; and the time goes on, where it was later.
func TestBase(t *testing.T) {
	d := disk.New(disk.MaxRoom)
	b := over(t, d, 10)
	n, e := b.Commit([]api.Write{{Key: "a", Val: "x"}}, 0, 12)
	if n != 1 || e != api.OK || b.At() != 12 || b.Store().Last() != 1 {
		t.Error(n, e, b.At(), b.Store().Last())
	}
	want(t, "Save", b.Save(), api.OK)
	wantText(t, "files", strings.Join(d.Names(), " "), "log state")
	want(t, "Vacuum", b.Vacuum(1), api.OK)
	wantNum(t, "Low", b.Store().Low(), 1)
	if v, is := b.Base.Store().Get("a", 1); v != "x" || !is {
		t.Error(v, is)
	}
	wantNum(t, "Now", b.Now(), 10)
	for _, now := range []int{0, 11, 12, 13, 99} {
		b := over(t, d.Clone(), now)
		wantNum(t, fmt.Sprint("Now, started at ", now), b.Now(), max(now, 12))
		wantText(t, "what there is", stateOf(t, b.Store()), stateOf(t, over(t, d.Crash(nil), 0).Store()))
	}
}

// P19.1: what a broker had open isn't there in the next one.
func TestStartAnew(t *testing.T) {
	d := disk.New(disk.MaxRoom)
	b := over(t, d, 10)
	once(t, b, append(makes(), wire.Ask{Op: wire.Send, A: "q", B: "x"})...)
	asks(t, b, 3, begin, wire.Ask{Op: wire.Watch}, wire.Ask{Op: wire.Take, A: "q", N: 5})
	wantNum(t, "Horizon", b.Horizon(), 0)
	b = over(t, d, 10)
	wantNum(t, "Horizon", b.Horizon(), 1)
	if b.Open(3) {
		t.Error("open")
	}
	ask(t, b, 3, wire.Ask{Op: wire.Poll, N: 1, M: 1}, api.ErrNone)
	asks(t, b, 4, begin)
	wantAnswer(t, "Take", asks(t, b, 4, wire.Ask{Op: wire.Take, A: "q", N: 5}), wire.Answer{N: 1, Texts: []string{idOf(0, 1, 1), idOf(1, 1, 1), "x"}})
}

// P19.1: Tick.
func TestTick(t *testing.T) {
	b := fresh(t)
	now := 10
	for _, n := range []int{0, 1, 90, 0, 1 << 30} {
		want(t, "Tick", b.Tick(n), api.OK)
		now += n
		wantNum(t, "Now", b.Now(), now)
		for _, wrong := range []int{-1, math.MinInt, math.MaxInt, api.MaxTime, api.MaxTime - now + 1, math.MaxInt - now, math.MaxInt - now + 1} {
			want(t, fmt.Sprint("Tick of ", wrong), b.Tick(wrong), api.ErrArg)
			wantNum(t, "Now", b.Now(), now)
		}
	}
	want(t, "Tick to the end", b.Tick(api.MaxTime-now), api.OK)
	wantNum(t, "Now", b.Now(), api.MaxTime)
	want(t, "Tick beyond", b.Tick(1), api.ErrArg)
	want(t, "Tick of none", b.Tick(0), api.OK)
	wantNum(t, "Now", b.Now(), api.MaxTime)
	asks(t, b, 0, append(append([]wire.Ask{begin}, makes()...), wire.Ask{Op: wire.Send, A: "q", N: api.MaxTime}, commit)...)
	wantNum(t, "At", b.At(), api.MaxTime)
}

// readyAt is when a message is Ready that is kept in the queue q.
func readyAt(t *testing.T, b *broker.Broker, id string) int {
	t.Helper()
	kept, _ := b.Store().Get(queue.Place("q", id), b.Store().Last())
	m, e := queue.Decode(id, kept)
	want(t, "Decode", e, api.OK)
	return m.Ready
}

// P19.1, P19.2: each transaction has the time at which it began, and is committed at that, or at that of the commit ahead.
func TestTimes(t *testing.T) {
	b := made(t)
	send := wire.Ask{Op: wire.Send, A: "q", B: "x", N: 3}
	for session := range 3 { // at 10, 15, 20
		asks(t, b, session, begin)
		want(t, "Tick", b.Tick(5), api.OK)
	}
	for i, x := range []struct{ session, ready, at int }{{1, 18, 15}, {0, 13, 15}, {2, 23, 20}} {
		id := asks(t, b, x.session, send).Texts[0]
		wantNum(t, "number", asks(t, b, x.session, commit).N, i+2)
		wantNum(t, "Ready", readyAt(t, b, id), x.ready)
		wantNum(t, "At", b.At(), x.at)
	}
	wantNum(t, "Now", b.Now(), 25)
	id := once(t, b, send)
	wantNum(t, "Ready", readyAt(t, b, id.Texts[0]), 28)
	wantNum(t, "At", b.At(), 25)
}

// P19.1: tags are 1, 2, .. in order, whatever becomes of the transactions, and whoever looks meanwhile.
func TestTags(t *testing.T) {
	b := fresh(t)
	send := wire.Ask{Op: wire.Send, A: "q", B: "x"}
	asks(t, b, 0, append([]wire.Ask{begin}, append(makes(), commit)...)...) // 1
	asks(t, b, 0, begin)                                                    // 2
	ask(t, b, 0, begin, api.ErrTurn)
	wantText(t, "id", asks(t, b, 0, send).Texts[0], idOf(1, 2, 1))
	asks(t, b, 5, begin) // 3
	wantText(t, "id", asks(t, b, 5, send).Texts[0], idOf(1, 3, 1))
	wantText(t, "id", asks(t, b, 0, send).Texts[0], idOf(1, 2, 2))
	asks(t, b, 0, abort, begin) // 4
	wantText(t, "id", asks(t, b, 0, send).Texts[0], idOf(1, 4, 1))
	ask(t, b, 0, wire.Ask{Op: wire.Put, A: "c"}, api.ErrArg)
	if n, e := b.Reap(9); n != 0 || e != api.OK { // 5
		t.Error(n, e)
	}
	b.Live("q")
	b.Horizon()
	want(t, "Clean", b.Clean(), api.OK)
	want(t, "Tick", b.Tick(1), api.OK)
	b.Do(16, bytesOf(t, begin))
	b.Do(1, "")
	asks(t, b, 15, begin) // 6
	wantText(t, "id", asks(t, b, 15, send).Texts[0], idOf(1, 6, 1))
	asks(t, b, 5, commit, begin) // 7
	w := asks(t, b, 5, wire.Ask{Op: wire.Take, A: "q", N: 1})
	wantText(t, "Token", w.Texts[1], idOf(2, 7, 1))
}

// nobody holds a broker to answer as one that isn't there.
func nobody(t *testing.T, b *broker.Broker) {
	t.Helper()
	wantNum(t, "Now", b.Now(), 0)
	want(t, "Tick", b.Tick(0), api.ErrArg)
	for _, s := range []string{"", "x", bytesOf(t, begin), bytesOf(t, wire.Ask{Op: wire.Watch}), strings.Repeat("x", wire.MaxAsk+1)} {
		for _, session := range []int{-1, 0, 15, 16} {
			wantAnswer(t, "Do", b.Do(session, s), wire.Fail(api.ErrArg))
		}
	}
	for _, most := range []int{-1, 0, 1, math.MaxInt} {
		if n, e := b.Reap(most); n != 0 || e != api.ErrArg {
			t.Error("Reap", n, e)
		}
	}
	wantNum(t, "Horizon", b.Horizon(), 0)
	want(t, "Clean", b.Clean(), api.ErrArg)
	wantNum(t, "Live", b.Live("q"), 0)
	for _, session := range []int{math.MinInt, -1, 0, 15, 16, math.MaxInt} {
		if b.Open(session) {
			t.Error("Open", session)
		}
	}
}

// P19.4: a nil Broker.
func TestNil(t *testing.T) { nobody(t, nil) }

// Rule 1: a Broker that wasn't started ends all calls, too.
func TestZero(t *testing.T) {
	b := &broker.Broker{}
	for op := wire.Begin; op <= wire.Unwatch; op++ {
		b.Do(0, bytesOf(t, begin))
		b.Do(0, bytesOf(t, wire.Ask{Op: op, A: "q", B: "x", N: 1, M: 1}))
	}
	wantNum(t, "Now", b.Now(), 0)
	wantNum(t, "Horizon", b.Horizon(), 0)
	wantNum(t, "Live", b.Live("q"), 0)
	want(t, "Clean", b.Clean(), api.ErrArg)
	if n, e := b.Reap(1); n != 0 || e != api.ErrArg {
		t.Error(n, e)
	}
	if b.Store() != nil || b.At() != 0 || b.Save() != api.ErrArg || b.Vacuum(0) != api.ErrArg {
		t.Error("a Base")
	}
}

// P19.2: Open tells of the sessions that there are.
func TestOpen(t *testing.T) {
	b := fresh(t)
	for session := range broker.MaxSessions {
		asks(t, b, session, begin)
		for other := -1; other <= broker.MaxSessions; other++ {
			if is := other >= 0 && other <= session; b.Open(other) != is {
				t.Error("open", other, !is)
			}
		}
	}
	for _, other := range []int{math.MinInt, -1, 16, 17, 255, 256, math.MaxInt} {
		if b.Open(other) {
			t.Error("open", other)
		}
	}
	for session := range broker.MaxSessions {
		asks(t, b, session, []wire.Ask{commit, abort}[session%2])
		for other := range broker.MaxSessions {
			if is := other > session; b.Open(other) != is {
				t.Error("open", other, !is)
			}
		}
	}
}

// P19.4: Live tells what is committed.
func TestLive(t *testing.T) {
	b := made(t)
	send := wire.Ask{Op: wire.Send, A: "q", B: "x"}
	for _, name := range []string{"", "q", "d", "none", strings.Repeat("x", 500)} {
		wantNum(t, "Live of "+name, b.Live(name), 0)
	}
	asks(t, b, 0, begin, send, send, wire.Ask{Op: wire.Send, A: "q", B: "later", N: api.MaxTime})
	wantNum(t, "Live, not committed", b.Live("q"), 0)
	asks(t, b, 1, begin)
	asks(t, b, 0, commit)
	wantNum(t, "Live", b.Live("q"), 3)
	wantNum(t, "Live of another one", b.Live("d"), 0)
	asks(t, b, 1, abort, begin)
	w := asks(t, b, 1, wire.Ask{Op: wire.Take, A: "q", N: 5})
	asks(t, b, 1, wire.Ask{Op: wire.Ack, A: "q", B: w.Texts[0], C: w.Texts[1]})
	wantNum(t, "Live, not committed", b.Live("q"), 3)
	asks(t, b, 1, commit)
	wantNum(t, "Live", b.Live("q"), 2)
}

// wantReap holds Reap to tell so many, in so many commits.
func wantReap(t *testing.T, b *broker.Broker, most, n, commits int) {
	t.Helper()
	last := b.Store().Last()
	if got, e := b.Reap(most); got != n || e != api.OK {
		t.Errorf("Reap of %d: %d, %d, not %d", most, got, e, n)
	}
	wantNum(t, "commits", b.Store().Last()-last, commits)
}

// P19.4: Reap takes 20 at most, at once.
func TestReap(t *testing.T) {
	b := made(t)
	once(t, b, wire.Ask{Op: wire.MakeColl, A: "b", B: schema.Coll{}.Encode()})
	for i := range 50 {
		due := 20 + i%2 // all of n below 50 by 21
		name := []string{"b", "c"}[i/25]
		once(t, b, wire.Ask{Op: wire.Put, A: name, B: fmt.Sprint(10 + i), C: doc(t, int64(i)), N: due})
	}
	once(t, b, wire.Ask{Op: wire.Put, A: "c", B: "never", C: doc(t, 1)}, wire.Ask{Op: wire.Put, A: "b", B: "later", C: doc(t, 1), N: 30})
	wantReap(t, b, 9, 0, 0)
	want(t, "Tick", b.Tick(9), api.OK)
	wantReap(t, b, 9, 0, 0)
	want(t, "Tick", b.Tick(1), api.OK)
	wantReap(t, b, 0, 0, 0)
	wantReap(t, b, -1, 0, 0)
	wantReap(t, b, math.MinInt, 0, 0)
	wantReap(t, b, 1, 1, 1)
	wantNum(t, "At", b.At(), 20)
	wantReap(t, b, 21, 20, 1)
	wantReap(t, b, 2, 2, 1)
	wantReap(t, b, math.MaxInt, 2, 1)
	want(t, "Tick", b.Tick(1), api.OK)
	asks(t, b, 3, begin)
	wantReap(t, b, 19, 19, 1)
	wantReap(t, b, 19, 6, 1)
	wantReap(t, b, 19, 0, 0)
	if !b.Open(3) {
		t.Error("not open")
	}
	asks(t, b, 3, abort, begin)
	wantText(t, "left", asks(t, b, 3, wire.Ask{Op: wire.Scan, A: "b", N: 9}).Texts[0], "later")
	wantText(t, "left", asks(t, b, 3, wire.Ask{Op: wire.Scan, A: "c", N: 9}).Texts[0], "never")
}

// P19.4: Reap's 20, with entries in 8 indexes each, are no more than a transaction writes.
func TestReapOfMany(t *testing.T) {
	c := schema.Coll{Name: "c"}
	var fields []val.Field
	for i := range schema.MaxIndexes {
		name := fmt.Sprint("f", i)
		c.Indexes = append(c.Indexes, schema.Index{Name: name, Field: name})
		fields = append(fields, val.Field{Name: name, Val: val.OfInt(1)})
	}
	b := fresh(t)
	once(t, b, wire.Ask{Op: wire.MakeColl, A: "c", B: c.Encode()})
	for i := range 25 {
		once(t, b, wire.Ask{Op: wire.Put, A: "c", B: fmt.Sprint(i), C: code(t, val.OfMap(fields...)), N: 1})
	}
	wantReap(t, b, 25, 20, 1)
	wantReap(t, b, 25, 5, 1)
}

// wantNoReap holds Reap to tell an error, and to turn nothing.
func wantNoReap(t *testing.T, b *broker.Broker, e api.Errno) {
	t.Helper()
	is := stateOf(t, b.Store())
	if n, got := b.Reap(5); n != 0 || got != e {
		t.Errorf("Reap: %d, %d, not %d", n, got, e)
	}
	wantText(t, "behind that", stateOf(t, b.Store()), is)
}

// P19.4: Reap's errors.
func TestReapFails(t *testing.T) {
	b := made(t)
	once(t, b, wire.Ask{Op: wire.Put, A: "c", B: "1", C: doc(t, 1), N: 10})
	_, e := b.Commit([]api.Write{{Key: coll().Doc("0"), Val: "\xff"}}, 2, 10)
	want(t, "Commit", e, api.OK)
	wantNoReap(t, b, api.ErrBad)

	small := disk.New(380)
	b = over(t, small, 10)
	once(t, b, makes()...)
	once(t, b, wire.Ask{Op: wire.Put, A: "c", B: "1", C: doc(t, 1), N: 10})
	want(t, "Append", small.Append("x", strings.Repeat("x", small.Room()-9)), api.OK)
	wantNoReap(t, b, api.ErrFull)
	wantNum(t, "Last", b.Store().Last(), 2)
	want(t, "Remove", small.Remove("x"), api.OK)
	wantReap(t, b, 5, 1, 1)
	once(t, b, wire.Ask{Op: wire.Put, A: "c", B: "2", C: doc(t, 1), N: 10})
	small.Fall(0)
	wantNoReap(t, b, api.ErrDown)
	wantNoReap(t, b, api.ErrDown)
}

// P19.4: Horizon is the least commit behind which somebody looks; Clean goes up to there.
func TestHorizon(t *testing.T) {
	b := fresh(t)
	turn := func(n int) { // n commits more
		for range n {
			_, e := b.Commit([]api.Write{{Key: "a", Val: "x"}}, b.Store().Last(), 10)
			want(t, "Commit", e, api.OK)
		}
	}
	check := func(what string, horizon int) {
		t.Helper()
		wantNum(t, what+": Horizon", b.Horizon(), horizon)
		low := b.Store().Low()
		want(t, what+": Clean", b.Clean(), api.OK)
		wantNum(t, what+": Low", b.Store().Low(), max(low, horizon))
		wantNum(t, what+": Versions", b.Store().Versions(), 1+b.Store().Last()-max(low, horizon))
	}
	turn(2)
	check("nobody looks", 2)
	asks(t, b, 0, begin)
	turn(1)
	asks(t, b, 1, begin)
	turn(1)
	w := asks(t, b, 1, wire.Ask{Op: wire.Watch, N: 3})
	turn(1)
	x := asks(t, b, 1, wire.Ask{Op: wire.Watch, N: 5})
	check("a transaction of 2, of 3, marks of 3, 5", 2)
	asks(t, b, 0, abort)
	asks(t, b, 0, begin)
	check("a transaction of 3, of 5, marks of 3, 5", 3)
	asks(t, b, 1, commit)
	turn(1)
	check("a transaction of 5, marks of 3, 5", 3)
	wantNum(t, "Poll", asks(t, b, 2, wire.Ask{Op: wire.Poll, N: w.N, M: 1}).N, 4)
	check("a transaction of 5, marks of 4, 5", 4)
	asks(t, b, 2, wire.Ask{Op: wire.Unwatch, N: w.N})
	check("a transaction of 5, a mark of 5", 5)
	asks(t, b, 2, wire.Ask{Op: wire.Unwatch, N: x.N})
	check("a transaction of 5", 5)
	ask(t, b, 0, wire.Ask{Op: wire.Send, A: "q"}, api.ErrNone)
	check("a transaction of 5", 5)
	ask(t, b, 0, wire.Ask{Op: wire.MakeQueue, A: "q"}, api.ErrArg)
	check("nobody looks", 6)
	asks(t, b, 0, begin)
	turn(2)
	want(t, "Vacuum", b.Vacuum(8), api.OK)
	turn(1)
	check("somebody looks below Low", 6)
	asks(t, b, 0, abort)
	check("nobody looks", 9)
}

// Rule 4: what was answered stays as it is.
func TestAnswersStay(t *testing.T) {
	b := made(t)
	w := asks(t, b, 0, wire.Ask{Op: wire.Watch}, wire.Ask{Op: wire.Poll, N: 1, M: 9})
	is := slices.Clone(w.Texts)
	w.Texts[0] = "turned"
	asks(t, b, 0, wire.Ask{Op: wire.Unwatch, N: 1}, wire.Ask{Op: wire.Watch})
	wantText(t, "Poll", asks(t, b, 0, wire.Ask{Op: wire.Poll, N: 2, M: 9}).Texts[0], is[0])
}
