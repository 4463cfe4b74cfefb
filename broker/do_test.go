package broker_test

import (
	"fmt"
	"strings"
	"testing"

	"mailbag/api"
	"mailbag/broker"
	"mailbag/octet"
	"mailbag/patch"
	"mailbag/queue"
	"mailbag/schema"
	"mailbag/val"
	"mailbag/wire"
)

// opsOf are operations' bytes.
func opsOf(t *testing.T, ops ...patch.Op) string {
	t.Helper()
	s, e := patch.Encode(ops)
	if e != api.OK {
		t.Fatal("operations", e)
	}
	return s
}

// add is the operation that adds to n.
func add(n int64) patch.Op {
	return patch.Op{Kind: patch.Add, Path: []string{"n"}, Val: val.OfInt(n)}
}

// deep is a value of so many values in each other.
func deep(n int) val.Val {
	v := val.Val{}
	for range n - 1 {
		v = val.OfList(v)
	}
	return v
}

// unreadable are bytes of no value.
func unreadable(t *testing.T) []string {
	one := num(t, 1)
	return []string{"", "\x06", "\x02\x00", one + "\x00", one[:len(one)-1], strings.Repeat("\x04\x01\x01", 32) + "\x00", "\x05\x01\x02\x01\x01b\x00\x01\x01a\x00", "\xff"}
}

// wantEnds holds an error to be told, and tells whether the session's transaction is at its end behind it.
func wantEnds(t *testing.T, b *broker.Broker, a wire.Ask, e api.Errno, ends bool) {
	t.Helper()
	ask(t, b, 0, a, e)
	if b.Open(0) == ends {
		t.Errorf("%v: error %d: open: %t", a, e, !ends)
	}
	if !b.Open(0) {
		asks(t, b, 0, begin)
	}
}

// P19.3: MakeColl.
func TestMakeColl(t *testing.T) {
	b := fresh(t)
	asks(t, b, 0, begin)
	wantAnswer(t, "MakeColl", asks(t, b, 0, wire.Ask{Op: wire.MakeColl, A: "c", B: coll().Encode(), C: "\xff", D: "\xff", N: 9, M: 9}), wire.Answer{})
	wantEnds(t, b, wire.Ask{Op: wire.MakeColl, A: "c", B: "\x00"}, api.ErrTwice, false)
	asks(t, b, 0, commit)
	kept, is := b.Store().Get(coll().Key(), 1)
	if kept != coll().Encode() || !is {
		t.Errorf("%q, %t", kept, is)
	}
	asks(t, b, 0, begin)
	right := coll().Encode()
	for _, wrong := range []wire.Ask{
		{A: "", B: right}, {A: strings.Repeat("x", api.MaxName+1), B: right},
		{A: "x", B: ""}, {A: "x", B: right[:len(right)-1]}, {A: "x", B: right + "\x00"}, {A: "x", B: "\x01\x09"},
		{A: "x", B: schema.Coll{Indexes: []schema.Index{{Name: "i"}, {Name: "i"}}}.Encode()},
		{A: "c", B: "\xff"}, // ahead of ErrTwice
	} {
		wrong.Op = wire.MakeColl
		wantEnds(t, b, wrong, api.ErrArg, true)
	}
	longest := strings.Repeat("x", api.MaxName)
	asks(t, b, 0, wire.Ask{Op: wire.MakeColl, A: longest, B: "\x00"}, wire.Ask{Op: wire.Scan, A: longest, N: 1})
}

// P19.3: Put.
func TestPut(t *testing.T) {
	b := made(t)
	asks(t, b, 0, begin)
	put := wire.Ask{Op: wire.Put, A: "c", B: "1", C: doc(t, 5), D: "\xff", M: 9}
	wantAnswer(t, "Put", asks(t, b, 0, put), wire.Answer{})
	wantEnds(t, b, wire.Ask{Op: wire.Put, A: "none", B: "1", C: doc(t, 5)}, api.ErrNone, false)
	unique := code(t, val.OfMap(val.Field{Name: "u", Val: val.OfInt(1)}))
	asks(t, b, 0, wire.Ask{Op: wire.Put, A: "c", B: "2", C: unique, N: 11})
	wantEnds(t, b, wire.Ask{Op: wire.Put, A: "c", B: "3", C: unique}, api.ErrTwice, false)
	asks(t, b, 0, wire.Ask{Op: wire.Put, A: "c", B: "2", C: unique, N: 10})
	ask(t, b, 0, wire.Ask{Op: wire.Get, A: "c", B: "2"}, api.ErrNone)
	asks(t, b, 0, wire.Ask{Op: wire.Put, A: "c", B: "2", C: unique, N: 11}, wire.Ask{Op: wire.Get, A: "c", B: "2"}, commit)
	kept, _ := b.Store().Get(coll().Doc("2"), 2)
	wantText(t, "kept", kept, "\x01\x0b"+unique)
	asks(t, b, 0, begin)
	for _, c := range unreadable(t) {
		wantEnds(t, b, wire.Ask{Op: wire.Put, A: "c", B: "1", C: c}, api.ErrArg, true)
		wantEnds(t, b, wire.Ask{Op: wire.Put, A: "none", B: "1", C: c}, api.ErrArg, true) // ahead of ErrNone
	}
	for _, id := range []string{"", strings.Repeat("x", 61)} {
		wantEnds(t, b, wire.Ask{Op: wire.Put, A: "c", B: id, C: doc(t, 5)}, api.ErrArg, true)
	}
	wantEnds(t, b, wire.Ask{Op: wire.Put, A: "c", B: "1", C: num(t, 5)}, api.ErrArg, true)
	asks(t, b, 0, wire.Ask{Op: wire.Put, A: "c", B: "3", C: doc(t, 5), N: api.MaxTime})
}

// P19.3: Patch.
func TestPatch(t *testing.T) {
	b := made(t)
	get := wire.Ask{Op: wire.Get, A: "c", B: "1"}
	once(t, b, wire.Ask{Op: wire.Put, A: "c", B: "1", C: doc(t, 5), N: 11})
	asks(t, b, 0, begin)
	change := func(ops string) wire.Ask {
		return wire.Ask{Op: wire.Patch, A: "c", B: "1", C: ops, D: "\xff", N: 9, M: 9}
	}
	wantAnswer(t, "Patch", asks(t, b, 0, change(opsOf(t, add(2), add(3)))), wire.Answer{})
	wantText(t, "n", asks(t, b, 0, get).Texts[0], doc(t, 10))
	asks(t, b, 0, change(opsOf(t)))
	wantText(t, "n", asks(t, b, 0, get).Texts[0], doc(t, 10))
	wantEnds(t, b, change(opsOf(t, patch.Op{Kind: patch.Drop, Path: []string{"x"}})), api.ErrNone, false)
	wantEnds(t, b, change(opsOf(t, patch.Op{Kind: patch.Set, Path: []string{"x"}, Val: deep(32)})), api.ErrDeep, false)
	wantText(t, "n", asks(t, b, 0, get).Texts[0], doc(t, 10))
	asks(t, b, 0, change(opsOf(t, patch.Op{Kind: patch.Set, Path: []string{"x"}, Val: deep(31)})), commit)
	kept, _ := b.Store().Get(coll().Doc("1"), 3)
	wantText(t, "due", kept[:2], "\x01\x0b")
	asks(t, b, 0, begin)
	right := opsOf(t, add(1))
	for _, ops := range []string{"", right[:len(right)-1], right + "\x00", "\x01\x33" + strings.Repeat(right[2:], 51), "\x01\x01" + strings.Replace(right[2:], "\x03", "\x04", 1), "\xff"} {
		wantEnds(t, b, change(ops), api.ErrArg, true)
		none := change(ops)
		none.B = "none"
		wantEnds(t, b, none, api.ErrArg, true) // ahead of ErrNone
	}
	wantEnds(t, b, wire.Ask{Op: wire.Patch, A: "c", B: "none", C: right}, api.ErrNone, false)
	wantEnds(t, b, change(opsOf(t, patch.Op{Kind: patch.Add, Path: []string{"x"}, Val: val.OfInt(1)})), api.ErrArg, true)
	asks(t, b, 0, change(opsOf(t, patch.Op{Kind: patch.Set, Path: []string{"x"}, Val: val.OfText(strings.Repeat("x", 4000))})))
	wantEnds(t, b, change(opsOf(t, patch.Op{Kind: patch.Set, Path: []string{"y"}, Val: val.OfText(strings.Repeat("x", 4000))})), api.ErrLong, true)
}

// P19.3: operations are as many as there may be.
func TestPatchMost(t *testing.T) {
	b := made(t)
	var ops []patch.Op
	for range patch.MaxOps {
		ops = append(ops, add(1))
	}
	once(t, b, wire.Ask{Op: wire.Put, A: "c", B: "1", C: doc(t, 5)}, wire.Ask{Op: wire.Patch, A: "c", B: "1", C: opsOf(t, ops...)})
	wantText(t, "n", once(t, b, wire.Ask{Op: wire.Get, A: "c", B: "1"}).Texts[0], doc(t, 55))
}

// P19.3: Delete and Get.
func TestGet(t *testing.T) {
	b := made(t)
	asks(t, b, 0, begin, wire.Ask{Op: wire.Put, A: "c", B: "1", C: doc(t, 5)})
	get := wire.Ask{Op: wire.Get, A: "c", B: "1", C: "\xff", D: "\xff", N: 9, M: 9}
	wantAnswer(t, "Get", asks(t, b, 0, get), wire.Answer{Texts: []string{doc(t, 5)}})
	for _, op := range []wire.Op{wire.Get, wire.Delete} {
		wantEnds(t, b, wire.Ask{Op: op, A: "c", B: "2"}, api.ErrNone, false)
		wantEnds(t, b, wire.Ask{Op: op, A: "none", B: "1"}, api.ErrNone, false)
		wantEnds(t, b, wire.Ask{Op: op}, api.ErrNone, false)
	}
	remove := get
	remove.Op = wire.Delete
	wantAnswer(t, "Delete", asks(t, b, 0, remove), wire.Answer{})
	wantEnds(t, b, remove, api.ErrNone, false)
	wantEnds(t, b, get, api.ErrNone, false)
}

// rowsOf are the ids of an answer's documents; each has as its n what its id says.
func rowsOf(t *testing.T, w wire.Answer) string {
	t.Helper()
	wantNum(t, "N", w.N*2, len(w.Texts))
	var ids []string
	for i := 0; i+1 < len(w.Texts); i += 2 {
		ids = append(ids, w.Texts[i])
		var n int64
		fmt.Sscan(w.Texts[i], &n)
		wantText(t, "value of "+w.Texts[i], w.Texts[i+1], doc(t, n))
	}
	return strings.Join(ids, " ")
}

// P19.3: Scan and Query tell ids and values, and how many.
func TestRows(t *testing.T) {
	b := made(t)
	for _, n := range []int64{7, 3, 12, 5} {
		once(t, b, wire.Ask{Op: wire.Put, A: "c", B: fmt.Sprint(n), C: doc(t, n)})
	}
	asks(t, b, 0, begin)
	scan := func(from string, most int) string {
		return rowsOf(t, asks(t, b, 0, wire.Ask{Op: wire.Scan, A: "c", B: from, C: "\xff", D: "\xff", N: most, M: 9}))
	}
	query := func(lo, hi int64, most int) string {
		return rowsOf(t, asks(t, b, 0, wire.Ask{Op: wire.Query, A: "c", B: "i", C: num(t, lo), D: num(t, hi), N: most, M: 1}))
	}
	wantText(t, "Scan", scan("", 9), "12 3 5 7")
	wantText(t, "Scan", scan("", api.MaxSeq), "12 3 5 7")
	wantText(t, "Scan", scan("2", 2), "3 5")
	wantText(t, "Scan", scan("8", 2), "")
	wantText(t, "Scan", scan("", 0), "")
	wantText(t, "Query", query(0, 99, 9), "3 5 7 12")
	wantText(t, "Query", query(5, 7, 9), "5 7")
	wantText(t, "Query", query(4, 99, 1), "5")
	wantText(t, "Query", query(7, 5, 9), "")
	wantText(t, "Query", query(0, 99, 0), "")
	wantEnds(t, b, wire.Ask{Op: wire.Scan, A: "none", N: 1}, api.ErrNone, false)
	for _, a := range []wire.Ask{{A: "none", B: "i"}, {A: "c", B: "none"}, {A: "c"}} {
		a.Op, a.C, a.D, a.N = wire.Query, num(t, 1), num(t, 1), 1
		wantEnds(t, b, a, api.ErrNone, false)
		for _, wrong := range unreadable(t) { // ahead of ErrNone
			a.C, a.D = wrong, num(t, 1)
			wantEnds(t, b, a, api.ErrArg, true)
			a.C, a.D = num(t, 1), wrong
			wantEnds(t, b, a, api.ErrArg, true)
		}
	}
}

// P19.3: MaxRows documents are told at most.
func TestMaxRows(t *testing.T) {
	b := made(t)
	for i := range 103 {
		once(t, b, wire.Ask{Op: wire.Put, A: "c", B: fmt.Sprint(100 + i), C: doc(t, int64(100+i))})
	}
	asks(t, b, 0, begin)
	for _, most := range []int{99, 100, 101, 103, 200, api.MaxSeq} {
		scan := asks(t, b, 0, wire.Ask{Op: wire.Scan, A: "c", N: most})
		query := asks(t, b, 0, wire.Ask{Op: wire.Query, A: "c", B: "i", C: num(t, 0), D: num(t, 999), N: most})
		wantNum(t, "Scan", scan.N, min(most, 100))
		wantText(t, "Scan", rowsOf(t, scan), rowsOf(t, query))
	}
}

// P19.3: MakeQueue.
func TestMakeQueue(t *testing.T) {
	b := fresh(t)
	asks(t, b, 0, begin)
	wantAnswer(t, "MakeQueue", asks(t, b, 0, wire.Ask{Op: wire.MakeQueue, A: "q", B: "d", C: "\xff", D: "\xff", N: 1000, M: 9}), wire.Answer{})
	wantEnds(t, b, wire.Ask{Op: wire.MakeQueue, A: "q", N: 1}, api.ErrTwice, false)
	asks(t, b, 0, commit, begin)
	longest := strings.Repeat("x", api.MaxName)
	for _, wrong := range []wire.Ask{{A: "", N: 1}, {A: longest + "x", N: 1}, {A: "x"}, {A: "x", N: 1001}, {A: "x", B: "x", N: 1}, {A: "x", B: longest + "x", N: 1}, {A: "q", B: "d"}} {
		wrong.Op = wire.MakeQueue
		wantEnds(t, b, wrong, api.ErrArg, true)
	}
	asks(t, b, 0, wire.Ask{Op: wire.MakeQueue, A: longest, N: 1, B: longest[1:]})
}

// P19.3: Send and Take.
func TestSend(t *testing.T) {
	b := made(t)
	longest := strings.Repeat("x", queue.MaxBody)
	asks(t, b, 0, begin)
	wantAnswer(t, "Send", asks(t, b, 0, wire.Ask{Op: wire.Send, A: "q", B: longest, C: "\xff", D: "\xff", M: 9}), wire.Answer{Texts: []string{idOf(1, 2, 1)}})
	wantAnswer(t, "Send", asks(t, b, 0, wire.Ask{Op: wire.Send, A: "q", N: api.MaxTime}), wire.Answer{Texts: []string{idOf(1, 2, 2)}})
	wantEnds(t, b, wire.Ask{Op: wire.Send, A: "none"}, api.ErrNone, false)
	wantEnds(t, b, wire.Ask{Op: wire.Take, A: "none", N: 1}, api.ErrNone, false)
	wantEnds(t, b, wire.Ask{Op: wire.Take, A: "d", N: 1}, api.ErrNone, false)
	w := asks(t, b, 0, wire.Ask{Op: wire.Take, A: "q", B: "x", C: "\xff", D: "\xff", N: api.MaxTime, M: 9})
	wantAnswer(t, "Take", w, wire.Answer{N: 1, Texts: []string{idOf(1, 2, 1), idOf(1, 2, 3), longest}})
	asks(t, b, 0, commit, begin)
	wantEnds(t, b, wire.Ask{Op: wire.Send, A: "q", B: longest + "x"}, api.ErrArg, true)
	wantEnds(t, b, wire.Ask{Op: wire.Take, A: "q"}, api.ErrArg, true)
	wantNum(t, "Live", b.Live("q"), 2)
}

// P19.3: what was taken is acked, given back, or kept on, by its token.
func TestLeases(t *testing.T) {
	b := made(t)
	once(t, b, wire.Ask{Op: wire.Send, A: "q", B: "x"})
	take := wire.Ask{Op: wire.Take, A: "q", N: 5}
	w := once(t, b, take)
	wantNum(t, "Count", w.N, 1)
	asks(t, b, 0, begin)
	of := func(op wire.Op, token string, n int) wire.Ask {
		return wire.Ask{Op: op, A: "q", B: w.Texts[0], C: token, D: "\xff", N: n, M: 9}
	}
	for _, op := range []wire.Op{wire.Ack, wire.Nack, wire.Extend} {
		wantEnds(t, b, wire.Ask{Op: op, A: "none", B: w.Texts[0], C: w.Texts[1], N: 1}, api.ErrNone, false)
		wantEnds(t, b, wire.Ask{Op: op, A: "d", B: w.Texts[0], C: w.Texts[1], N: 1}, api.ErrNone, false)
		wantEnds(t, b, wire.Ask{Op: op, A: "q", B: "x", C: w.Texts[1], N: 1}, api.ErrNone, false)
		wantEnds(t, b, of(op, "", 1), api.ErrLease, false)
		wantEnds(t, b, of(op, w.Texts[0], 0), api.ErrLease, false)
		if op != wire.Ack {
			wantEnds(t, b, of(op, w.Texts[1], 0), api.ErrArg, true)
			asks(t, b, 0, of(op, w.Texts[1], api.MaxTime), abort, begin)
		}
	}
	wantAnswer(t, "Extend", asks(t, b, 0, of(wire.Extend, w.Texts[1], 7)), wire.Answer{})
	asks(t, b, 0, commit)
	want(t, "Tick", b.Tick(6), api.OK)
	asks(t, b, 0, begin)
	wantEnds(t, b, take, api.ErrNone, false)
	wantAnswer(t, "Nack", asks(t, b, 0, of(wire.Nack, w.Texts[1], 3)), wire.Answer{})
	wantEnds(t, b, of(wire.Ack, w.Texts[1], 0), api.ErrLease, false)
	asks(t, b, 0, commit)
	want(t, "Tick", b.Tick(2), api.OK)
	asks(t, b, 0, begin)
	wantEnds(t, b, take, api.ErrNone, false)
	asks(t, b, 0, abort)
	want(t, "Tick", b.Tick(1), api.OK)
	w = once(t, b, take)
	wantNum(t, "Count", w.N, 2)
	asks(t, b, 0, begin)
	wantAnswer(t, "Ack", asks(t, b, 0, of(wire.Ack, w.Texts[1], 0)), wire.Answer{})
	wantEnds(t, b, of(wire.Ack, w.Texts[1], 0), api.ErrNone, false)
	asks(t, b, 0, commit)
	wantNum(t, "Live", b.Live("q"), 0)
}

// P19.3, P3: what was handed out as often as its queue says goes to the queue Dead, even where nothing is told.
func TestDead(t *testing.T) {
	b := made(t)
	id := once(t, b, wire.Ask{Op: wire.Send, A: "q", B: "x"}).Texts[0]
	for i := range 2 {
		wantNum(t, "Count", once(t, b, wire.Ask{Op: wire.Take, A: "q", N: 5}).N, i+1)
		want(t, "Tick", b.Tick(5), api.OK)
	}
	asks(t, b, 0, begin)
	wantEnds(t, b, wire.Ask{Op: wire.Take, A: "q", N: 5}, api.ErrNone, false)
	w := asks(t, b, 0, wire.Ask{Op: wire.Take, A: "d", N: 5})
	wantAnswer(t, "Take", w, wire.Answer{N: 1, Texts: []string{id, w.Texts[1], "x"}})
	asks(t, b, 1, begin)
	ask(t, b, 1, wire.Ask{Op: wire.Take, A: "q", N: 5}, api.ErrNone)
	ask(t, b, 1, wire.Ask{Op: wire.Take, A: "d", N: 5}, api.ErrNone) // 0 is at that place in d
	asks(t, b, 0, commit)
	ask(t, b, 1, commit, api.ErrWritten)
	wantNum(t, "Live", b.Live("q"), 0)
	wantNum(t, "Live", b.Live("d"), 1)
}

// P19.3: so many writes as a transaction has; behind one more it has none any more.
func TestErrLong(t *testing.T) {
	b := made(t)
	asks(t, b, 0, begin)
	for range api.MaxWrites {
		asks(t, b, 0, wire.Ask{Op: wire.Send, A: "q"})
	}
	asks(t, b, 0, commit, begin)
	for range api.MaxWrites {
		asks(t, b, 0, wire.Ask{Op: wire.Send, A: "q"})
	}
	wantEnds(t, b, wire.Ask{Op: wire.Send, A: "q"}, api.ErrLong, true)
	wantNum(t, "Live", b.Live("q"), api.MaxWrites)
}

// P19.3: where what is kept can't be read, ErrBad is the transaction's end; ErrForm of a collection isn't.
func TestErrBad(t *testing.T) {
	b := made(t)
	once(t, b, wire.Ask{Op: wire.MakeColl, A: "bad", B: "\x00"}, wire.Ask{Op: wire.MakeQueue, A: "bad", N: 1})
	bad := schema.Coll{Name: "bad"}
	_, e := b.Commit([]api.Write{{Key: bad.Doc("1"), Val: "\xff"}, {Key: queue.Place("bad", "1"), Val: "\xff"}}, b.Store().Last(), 10)
	want(t, "Commit", e, api.OK)
	asks(t, b, 0, begin)
	for _, a := range []wire.Ask{
		{Op: wire.Get, A: "bad", B: "1"}, {Op: wire.Delete, A: "bad", B: "1"}, {Op: wire.Patch, A: "bad", B: "1", C: "\x00"},
		{Op: wire.Put, A: "bad", B: "1", C: doc(t, 1)}, {Op: wire.Scan, A: "bad", N: 1}, {Op: wire.Take, A: "bad", N: 1}, {Op: wire.Ack, A: "bad", B: "1"},
	} {
		wantEnds(t, b, a, api.ErrBad, true)
	}
	_, e = b.Commit([]api.Write{{Key: bad.Key(), Val: "\xff"}}, b.Store().Last(), 10)
	want(t, "Commit", e, api.OK)
	asks(t, b, 0, abort, begin)
	for _, a := range []wire.Ask{
		{Op: wire.Get, A: "bad", B: "1"}, {Op: wire.Delete, A: "bad", B: "1"}, {Op: wire.Patch, A: "bad", B: "1", C: "\x00"},
		{Op: wire.Put, A: "bad", B: "1", C: doc(t, 1)}, {Op: wire.Scan, A: "bad", N: 1}, {Op: wire.Query, A: "bad", B: "i", C: "\x00", D: "\x00"},
	} {
		wantEnds(t, b, a, api.ErrForm, false)
	}
}

// P19.3: what is left written behind an error is told nobody: the transaction is at its end.
func TestNoHalf(t *testing.T) {
	b := fresh(t)
	c := schema.Coll{Name: "c", Indexes: []schema.Index{{Name: "i", Field: "n"}}}
	once(t, b, wire.Ask{Op: wire.MakeColl, A: "c", B: c.Encode()})
	long := code(t, val.OfMap(val.Field{Name: "n", Val: val.OfText(strings.Repeat("x", api.MaxKey))}))
	asks(t, b, 0, begin, wire.Ask{Op: wire.Put, A: "c", B: "1", C: doc(t, 1)})
	wantEnds(t, b, wire.Ask{Op: wire.Put, A: "c", B: "2", C: long}, api.ErrArg, true)
	wantNum(t, "documents", asks(t, b, 0, wire.Ask{Op: wire.Scan, A: "c", N: 9}).N, 0)
	asks(t, b, 0, commit)
	wantNum(t, "Last", b.Store().Last(), 1)
}

// P19.3: numbers, texts and values in all that is asked are what they are in those layers.
func TestOfOctets(t *testing.T) {
	b := made(t)
	none := string(octet.Num(nil, 0))
	once(t, b, wire.Ask{Op: wire.MakeColl, A: "\x00", B: none}, wire.Ask{Op: wire.Put, A: "\x00", B: "\xff\x00", C: "\x05\x00"})
	w := once(t, b, wire.Ask{Op: wire.Scan, A: "\x00", B: "\xfe", N: 1})
	wantAnswer(t, "Scan", w, wire.Answer{N: 1, Texts: []string{"\xff\x00", "\x05\x00"}})
}
