package broker_test

import (
	"fmt"
	"math"
	"strings"
	"testing"

	"mailbag/api"
	"mailbag/broker"
	"mailbag/disk"
	"mailbag/rec"
	"mailbag/wire"
)

// inTxn are the questions that only a session with a transaction may ask.
func inTxn() []wire.Ask {
	var list []wire.Ask
	for op := wire.Commit; op < wire.Watch; op++ {
		list = append(list, wire.Ask{Op: op, A: "q", B: "x", C: "\xff", D: "\xff", N: 1, M: 1}, wire.Ask{Op: op})
	}
	return list
}

// P19.2: sessions are 0 to 15, and that comes ahead of all else.
func TestSessions(t *testing.T) {
	b := made(t)
	for _, session := range []int{math.MinInt, -1, 16, 17, 255, 256, 1 << 32, math.MaxInt} {
		for _, s := range []string{"", "x", bytesOf(t, begin), bytesOf(t, commit), bytesOf(t, wire.Ask{Op: wire.Watch}), strings.Repeat("x", wire.MaxAsk+1)} {
			wantAnswer(t, fmt.Sprint("session ", session), b.Do(session, s), wire.Fail(api.ErrArg))
		}
	}
	for session := range broker.MaxSessions {
		if b.Open(session) {
			t.Error("open", session)
		}
		wantAnswer(t, fmt.Sprint("session ", session), b.Do(session, bytesOf(t, begin)), wire.Answer{N: 1})
	}
}

// P19.2: layer 18's errors come ahead of what is asked, and turn nothing.
func TestNoQuestion(t *testing.T) {
	b := made(t)
	for range 2 {
		is := bytesOf(t, wire.Ask{Op: wire.Abort, A: "a"})
		for i := range len(is) {
			wantAnswer(t, "cut off", b.Do(3, is[:i]), wire.Fail(api.ErrForm))
		}
		wantAnswer(t, "more behind it", b.Do(3, is+"\x00"), wire.Fail(api.ErrForm))
		wantAnswer(t, "no Op", b.Do(3, "\x00\x00\x00\x00\x00\x00\x00"), wire.Fail(api.ErrForm))
		wantAnswer(t, "another Op", b.Do(3, "\x01\x14\x00\x00\x00\x00\x00\x00"), wire.Fail(api.ErrForm))
		wantAnswer(t, "as long as may be", b.Do(3, strings.Repeat("\x01", wire.MaxAsk)), wire.Fail(api.ErrForm))
		wantAnswer(t, "too long", b.Do(3, strings.Repeat("\x01", wire.MaxAsk+1)), wire.Fail(api.ErrLong))
		if !b.Open(3) {
			asks(t, b, 3, begin)
		}
	}
	if !b.Open(3) {
		t.Error("not open")
	}
}

// P19.2: a session has one transaction, or none.
func TestTurns(t *testing.T) {
	b := made(t)
	asks(t, b, 1, begin)
	for range 2 {
		for _, a := range inTxn() {
			ask(t, b, 0, a, api.ErrTurn)
		}
		asks(t, b, 0, begin)
		asks(t, b, 0, wire.Ask{Op: wire.Put, A: "c", B: "1", C: doc(t, 1)})
		ask(t, b, 0, begin, api.ErrTurn)
		asks(t, b, 0, wire.Ask{Op: wire.Get, A: "c", B: "1"})
		asks(t, b, 0, abort)
	}
	if !b.Open(1) || b.Open(0) {
		t.Error("open")
	}
}

// P19.2: Begin tells the Snap, and what is committed behind that isn't seen.
func TestBegin(t *testing.T) {
	b := made(t)
	put, get := wire.Ask{Op: wire.Put, A: "c", B: "1", C: doc(t, 1)}, wire.Ask{Op: wire.Get, A: "c", B: "1"}
	wantAnswer(t, "Begin", asks(t, b, 0, begin), wire.Answer{N: 1})
	wantAnswer(t, "Begin", asks(t, b, 1, begin), wire.Answer{N: 1})
	wantAnswer(t, "Put", asks(t, b, 0, put), wire.Answer{})
	ask(t, b, 1, get, api.ErrNone)
	wantAnswer(t, "Commit", asks(t, b, 0, commit), wire.Answer{N: 2})
	ask(t, b, 1, get, api.ErrNone)
	wantAnswer(t, "Abort", asks(t, b, 1, abort), wire.Answer{})
	wantAnswer(t, "Begin", asks(t, b, 1, begin), wire.Answer{N: 2})
	asks(t, b, 1, get, wire.Ask{Op: wire.Delete, A: "c", B: "1"})
	ask(t, b, 1, get, api.ErrNone)
	asks(t, b, 1, abort, begin, get)
}

// P19.2: a commit of nothing is the last one, whatever was committed meanwhile.
func TestCommitNothing(t *testing.T) {
	b := made(t)
	asks(t, b, 0, begin)
	ask(t, b, 0, wire.Ask{Op: wire.Get, A: "c", B: "1"}, api.ErrNone)
	once(t, b, wire.Ask{Op: wire.Put, A: "c", B: "1", C: doc(t, 1)})
	wantAnswer(t, "Commit", asks(t, b, 0, commit), wire.Answer{N: 2})
	wantNum(t, "Last", b.Store().Last(), 2)
	if b.Open(0) {
		t.Error("open")
	}
}

// P19.2: ErrWritten just if a commit behind the snapshot wrote one of its keys; the transaction is at its end.
func TestErrWritten(t *testing.T) {
	b := made(t)
	for i, x := range []struct {
		a, b wire.Ask
		e    api.Errno
	}{
		{wire.Ask{Op: wire.Put, A: "c", B: "1", C: doc(t, 1)}, wire.Ask{Op: wire.Put, A: "c", B: "1", C: doc(t, 2)}, api.ErrWritten},
		{wire.Ask{Op: wire.Put, A: "c", B: "1", C: doc(t, 3)}, wire.Ask{Op: wire.Put, A: "c", B: "2", C: doc(t, 3)}, api.OK},
		{wire.Ask{Op: wire.Delete, A: "c", B: "1"}, wire.Ask{Op: wire.Put, A: "c", B: "1", C: doc(t, 2)}, api.ErrWritten},
		{wire.Ask{Op: wire.Send, A: "q"}, wire.Ask{Op: wire.Send, A: "q"}, api.OK},
		{wire.Ask{Op: wire.MakeQueue, A: "x", N: 1}, wire.Ask{Op: wire.MakeQueue, A: "x", N: 1}, api.ErrWritten},
		{wire.Ask{Op: wire.MakeColl, A: "x", B: "\x00"}, wire.Ask{Op: wire.MakeQueue, A: "y", N: 1}, api.OK},
	} {
		asks(t, b, 0, begin)
		asks(t, b, 1, begin, x.b)
		asks(t, b, 0, x.a, commit)
		last, is := b.Store().Last(), stateOf(t, b.Store())
		w := ask(t, b, 1, commit, x.e)
		if x.e == api.OK {
			wantNum(t, fmt.Sprint(i, ": number"), w.N, last+1)
		} else {
			wantText(t, "behind that", stateOf(t, b.Store()), is)
		}
		if b.Open(1) {
			t.Error("open")
		}
		ask(t, b, 1, commit, api.ErrTurn)
	}
}

// P19.2, P1: what the disk has no room for isn't committed; the transaction is at its end, and all else stays.
func TestErrFull(t *testing.T) {
	d := disk.New(250)
	b := over(t, d, 10)
	once(t, b, makes()...)
	is := stateOf(t, b.Store())
	asks(t, b, 0, begin, wire.Ask{Op: wire.Send, A: "q", B: strings.Repeat("x", 250)})
	asks(t, b, 0, wire.Ask{Op: wire.Take, A: "q", N: 1})
	ask(t, b, 0, commit, api.ErrFull)
	wantText(t, "behind that", stateOf(t, b.Store()), is)
	ask(t, b, 0, commit, api.ErrTurn)
	wantNum(t, "number", once(t, b, wire.Ask{Op: wire.Send, A: "q"}).N, 0)
	wantNum(t, "Last", b.Store().Last(), 2)
	wantText(t, "on the disk", stateOf(t, over(t, d.Crash(nil), 0).Store()), stateOf(t, b.Store()))
}

// P19.2, P2: without power nothing is committed; what was answered is there behind it.
func TestErrDown(t *testing.T) {
	d := disk.New(disk.MaxRoom)
	b := over(t, d, 10)
	once(t, b, makes()...)
	is := stateOf(t, b.Store())
	for _, turns := range []int{1, 0} {
		d.Fall(turns)
		asks(t, b, 0, begin, wire.Ask{Op: wire.Send, A: "q", B: "x"})
		ask(t, b, 0, commit, api.ErrDown)
		if b.Open(0) {
			t.Error("open")
		}
		ask(t, b, 0, commit, api.ErrTurn)
	}
	wantText(t, "on the disk", stateOf(t, over(t, d.Crash(nil), 0).Store()), is)
}

// P19.2: a transaction whose snapshot was vacuumed away.
func TestErrArgOfCommit(t *testing.T) {
	b := made(t)
	asks(t, b, 0, begin, wire.Ask{Op: wire.Send, A: "q"})
	once(t, b, wire.Ask{Op: wire.Send, A: "q"})
	want(t, "Vacuum", b.Vacuum(2), api.OK)
	ask(t, b, 0, commit, api.ErrArg)
	if b.Open(0) {
		t.Error("open")
	}
}

// P19.2: Watch.
func TestWatch(t *testing.T) {
	b := made(t)
	for range 4 {
		once(t, b, wire.Ask{Op: wire.Send, A: "q"})
	}
	want(t, "Vacuum", b.Vacuum(2), api.OK)
	watch := func(mark int) wire.Ask { return wire.Ask{Op: wire.Watch, N: mark, A: "a", M: 1} }
	for range 2 {
		for _, mark := range []int{0, 1} {
			ask(t, b, 0, watch(mark), api.ErrOld)
		}
		for _, mark := range []int{6, 7, 1000, api.MaxSeq} {
			ask(t, b, 0, watch(mark), api.ErrMark)
		}
		if !b.Open(0) {
			asks(t, b, 0, begin)
		}
	}
	for i := range 64 {
		wantAnswer(t, "Watch", asks(t, b, i%16, watch(2+i%4)), wire.Answer{N: 1 + i})
	}
	ask(t, b, 0, watch(1), api.ErrOld)
	ask(t, b, 0, watch(6), api.ErrMark)
	ask(t, b, 0, watch(2), api.ErrLong)
	if !b.Open(0) {
		t.Error("not open")
	}
	for _, n := range []int{0, 65, api.MaxSeq} {
		ask(t, b, 0, wire.Ask{Op: wire.Unwatch, N: n}, api.ErrNone)
	}
	wantAnswer(t, "Unwatch", asks(t, b, 9, wire.Ask{Op: wire.Unwatch, N: 7, A: "a", M: 1}), wire.Answer{})
	ask(t, b, 9, wire.Ask{Op: wire.Unwatch, N: 7}, api.ErrNone)
	wantAnswer(t, "Watch", asks(t, b, 0, watch(5)), wire.Answer{N: 65})
	ask(t, b, 0, watch(5), api.ErrLong)
}

// polled is what a Poll answers, as commits.
func polled(t *testing.T, w wire.Answer) []api.Commit {
	t.Helper()
	var list []api.Commit
	for _, s := range w.Texts {
		c, e := rec.ReadCommit(s)
		want(t, "ReadCommit", e, api.OK)
		list = append(list, c)
	}
	return list
}

// wantPoll holds a Poll to tell the mark, and these keys, each as its commit and itself, one behind the other.
func wantPoll(t *testing.T, b *broker.Broker, a wire.Ask, mark int, keys string) {
	t.Helper()
	w := asks(t, b, 4, a)
	wantNum(t, fmt.Sprint(a, ": Mark"), w.N, mark)
	var got []string
	for _, c := range polled(t, w) {
		for _, x := range c.Writes {
			got = append(got, fmt.Sprint(c.Seq, x.Key, x.Val, c.At))
		}
	}
	wantText(t, fmt.Sprint(a), strings.Join(got, " "), keys)
}

// P19.2: Poll tells from the mark that is held, and holds the one that it comes to.
func TestPoll(t *testing.T) {
	b := fresh(t)
	for i, keys := range []string{"a", "b", "ab", "c", "ac"} {
		var list []api.Write
		for _, key := range strings.Split(keys, "") {
			list = append(list, api.Write{Key: key + "k", Val: "x"})
		}
		_, e := b.Commit(list, i, 10+i)
		want(t, "Commit", e, api.OK)
	}
	poll := func(n int, prefix string, most int) wire.Ask {
		return wire.Ask{Op: wire.Poll, N: n, A: prefix, M: most, B: "not asked"}
	}
	ask(t, b, 0, poll(1, "", 1), api.ErrNone)
	ask(t, b, 0, poll(1, "", 0), api.ErrNone)
	asks(t, b, 0, wire.Ask{Op: wire.Watch}, wire.Ask{Op: wire.Watch, N: 3}, wire.Ask{Op: wire.Watch}, begin)
	ask(t, b, 0, poll(0, "", 1), api.ErrNone)
	ask(t, b, 0, poll(4, "", 1), api.ErrNone)
	for _, wrong := range []wire.Ask{poll(1, "a", 0), poll(1, "a", 101), poll(1, "a", api.MaxSeq), poll(1, strings.Repeat("a", api.MaxKey+1), 1)} {
		ask(t, b, 0, wrong, api.ErrArg)
	}
	if !b.Open(0) {
		t.Error("not open")
	}
	wantPoll(t, b, poll(1, "b", 1), 2, "2bkx11")
	wantPoll(t, b, poll(1, "b", 100), 5, "3bkx12")
	wantPoll(t, b, poll(1, "b", 100), 5, "")
	wantPoll(t, b, poll(2, "", 1), 4, "4ckx13")
	wantPoll(t, b, poll(2, "", 1), 5, "5akx14 5ckx14")
	wantPoll(t, b, poll(3, "", 3), 3, "1akx10 2bkx11 3akx12 3bkx12")
	wantPoll(t, b, poll(3, strings.Repeat("a", api.MaxKey), 1), 5, "")
	want(t, "Clean", b.Clean(), api.OK)
	wantNum(t, "Low", b.Store().Low(), 5)
	for i := 5; i < 8; i++ {
		_, e := b.Commit([]api.Write{{Key: "d", Gone: true}}, i, 10)
		want(t, "Commit", e, api.OK)
	}
	wantPoll(t, b, poll(3, "d", 1), 6, "6d14")
	want(t, "Vacuum", b.Vacuum(7), api.OK)
	ask(t, b, 0, poll(3, "", 0), api.ErrArg)
	ask(t, b, 0, poll(3, "", 1), api.ErrOld)
	ask(t, b, 0, poll(3, "", 1), api.ErrOld)
	wantNum(t, "Horizon", b.Horizon(), 5)
	asks(t, b, 0, wire.Ask{Op: wire.Unwatch, N: 3})
	ask(t, b, 0, poll(3, "", 1), api.ErrNone)
}

// P19.2: commits that are told are such as they were committed, byte by byte.
func TestPollTexts(t *testing.T) {
	b := made(t)
	once(t, b, wire.Ask{Op: wire.Put, A: "c", B: "1", C: doc(t, 1)})
	asks(t, b, 0, wire.Ask{Op: wire.Watch})
	w := asks(t, b, 0, wire.Ask{Op: wire.Poll, N: 1, M: 100})
	list, e := b.Store().Since(0)
	want(t, "Since", e, api.OK)
	wantNum(t, "commits", len(w.Texts), len(list))
	for i, c := range list {
		text, e := rec.Commit(c)
		want(t, "Commit", e, api.OK)
		wantText(t, "told", w.Texts[i], text)
	}
}

// P19.2: none but those who end their transactions lose what they are at.
func TestClaims(t *testing.T) {
	take := wire.Ask{Op: wire.Take, A: "q", N: 5}
	ends := map[string]func(b *broker.Broker){
		"Commit": func(b *broker.Broker) { asks(t, b, 0, commit) },
		"Abort":  func(b *broker.Broker) { asks(t, b, 0, abort) },
		"ErrArg": func(b *broker.Broker) { ask(t, b, 0, wire.Ask{Op: wire.MakeQueue, A: "q"}, api.ErrArg) },
		"ErrWritten": func(b *broker.Broker) {
			asks(t, b, 0, wire.Ask{Op: wire.Put, A: "c", B: "1", C: doc(t, 1)})
			once(t, b, wire.Ask{Op: wire.Put, A: "c", B: "1", C: doc(t, 1)})
			ask(t, b, 0, commit, api.ErrWritten)
		},
	}
	for what, end := range ends {
		b := made(t)
		once(t, b, wire.Ask{Op: wire.Send, A: "q", B: "x"}, wire.Ask{Op: wire.Send, A: "q", B: "y"}, wire.Ask{Op: wire.Send, A: "q", B: "z"})
		for session := range 4 {
			asks(t, b, session, begin)
		}
		for session, body := range []string{"x", "y", "z"} {
			wantText(t, what, asks(t, b, session, take).Texts[2], body)
		}
		ask(t, b, 3, take, api.ErrNone)
		asks(t, b, 1, abort, begin)
		asks(t, b, 2, wire.Ask{Op: wire.Watch}, wire.Ask{Op: wire.Unwatch, N: 1})
		ask(t, b, 2, wire.Ask{Op: wire.Get, A: "c", B: "none"}, api.ErrNone)
		wantText(t, what, asks(t, b, 3, take).Texts[2], "y")
		ask(t, b, 3, take, api.ErrNone)
		end(b)
		w := asks(t, b, 3, take) // as of its snapshot: also if that was taken meanwhile
		wantText(t, what, w.Texts[2], "x")
		ask(t, b, 1, take, api.ErrNone)
		if what == "Commit" {
			ask(t, b, 3, commit, api.ErrWritten)
		} else {
			asks(t, b, 3, commit)
		}
	}
}
