package broker_test

import (
	"fmt"
	"slices"
	"strings"
	"testing"

	"mailbag/api"
	"mailbag/broker"
	"mailbag/docs"
	"mailbag/octet"
	"mailbag/patch"
	"mailbag/queue"
	"mailbag/rec"
	"mailbag/schema"
	"mailbag/store"
	"mailbag/txn"
	"mailbag/val"
	"mailbag/wire"
)

// model is what a broker is to answer, with all commits kept in a list: each transaction is over a store of its own, which is these as far as its snapshot.
type model struct {
	t     *testing.T
	made  []api.Commit // from commit 1 on
	low   int
	at    int // of the last commit that was made, or read
	now   int
	tag   int
	txns  map[int]*txn.Txn
	is    map[string]int // who is at a place
	marks map[int]int
	given int // marks
}

// newModel is a model of nothing, at a time.
func newModel(t *testing.T, now int) *model {
	return &model{t: t, now: now, txns: map[int]*txn.Txn{}, is: map[string]int{}, marks: map[int]int{}}
}

// fold is a store of the commits up to one.
func (m *model) fold(seq int) *store.Store {
	s, e := store.New(0, nil)
	want(m.t, "New", e, api.OK)
	for _, c := range m.made[:seq] {
		want(m.t, "Commit", s.Commit(c), api.OK)
	}
	return s
}

// begin is a transaction over that.
func (m *model) begin() *txn.Txn {
	m.tag++
	return txn.Begin(m.fold(len(m.made)), m.now, m.tag)
}

// end ends a session's transaction.
func (m *model) end(session int) {
	delete(m.txns, session)
	for place, who := range m.is {
		if who == session {
			delete(m.is, place)
		}
	}
}

// written tells whether a commit behind the snapshot wrote one of its keys.
func (m *model) written(x *txn.Txn) bool {
	for _, w := range x.Writes() {
		for _, c := range m.made[x.Snap():] {
			if slices.ContainsFunc(c.Writes, func(o api.Write) bool { return o.Key == w.Key }) {
				return true
			}
		}
	}
	return false
}

// commitOf is the commit that a transaction is to be, if it wrote something.
func (m *model) commitOf(x *txn.Txn) api.Commit {
	return api.Commit{Seq: len(m.made) + 1, At: max(m.at, x.Now()), Writes: x.Writes()}
}

// take takes a transaction's commit in: its number, or the error. (With power and room.)
func (m *model) take(x *txn.Txn) (int, api.Errno) {
	switch {
	case m.written(x):
		return 0, api.ErrWritten
	case len(x.Writes()) == 0:
		return len(m.made), api.OK
	}
	c := m.commitOf(x)
	m.made, m.at = append(m.made, c), c.At
	return c.Seq, api.OK
}

// horizon is as P19.4 says.
func (m *model) horizon() int {
	least := len(m.made)
	for _, mark := range m.marks {
		least = min(least, mark)
	}
	for _, x := range m.txns {
		least = min(least, x.Snap())
	}
	return least
}

// do is what a session is to be answered.
func (m *model) do(session int, s string) wire.Answer {
	if session < 0 || session > 15 {
		return wire.Fail(api.ErrArg)
	}
	a, e := wire.ReadAsk(s)
	x, open := m.txns[session]
	switch {
	case e != api.OK:
		return wire.Fail(e)
	case a.Op == wire.Watch:
		return m.watch(a.N)
	case a.Op == wire.Poll:
		return m.poll(a)
	case a.Op == wire.Unwatch:
		return m.unwatch(a.N)
	case (a.Op == wire.Begin) == open:
		return wire.Fail(api.ErrTurn)
	case a.Op == wire.Begin:
		m.txns[session] = m.begin()
		return wire.Answer{N: len(m.made)}
	case a.Op == wire.Commit:
		m.end(session)
		n, e := m.take(x)
		return wire.Answer{E: e, N: n}
	case a.Op == wire.Abort:
		m.end(session)
		return wire.Answer{}
	}
	w := m.within(session, x, a)
	if w.E == api.ErrArg || w.E == api.ErrLong || w.E == api.ErrBad {
		m.end(session)
	}
	return w
}

// watch is what Watch is to answer.
func (m *model) watch(mark int) wire.Answer {
	switch {
	case mark < m.low:
		return wire.Fail(api.ErrOld)
	case mark > len(m.made):
		return wire.Fail(api.ErrMark)
	case len(m.marks) == 64:
		return wire.Fail(api.ErrLong)
	}
	m.given++
	m.marks[m.given] = mark
	return wire.Answer{N: m.given}
}

// unwatch is what Unwatch is to answer.
func (m *model) unwatch(n int) wire.Answer {
	if _, is := m.marks[n]; !is {
		return wire.Fail(api.ErrNone)
	}
	delete(m.marks, n)
	return wire.Answer{}
}

// poll is what Poll is to answer.
func (m *model) poll(a wire.Ask) wire.Answer {
	mark, is := m.marks[a.N]
	switch {
	case !is:
		return wire.Fail(api.ErrNone)
	case a.M < 1 || a.M > 100 || len(a.A) > 400:
		return wire.Fail(api.ErrArg)
	}
	w := wire.Answer{}
	for mark < len(m.made) && len(w.Texts) < a.M {
		c := m.made[mark]
		mark++
		c.Writes = slices.DeleteFunc(slices.Clone(c.Writes), func(x api.Write) bool { return !strings.HasPrefix(x.Key, a.A) })
		if len(c.Writes) > 0 {
			s, e := rec.Commit(c)
			want(m.t, "rec", e, api.OK)
			w.Texts = append(w.Texts, s)
		}
	}
	// What is behind the last one told, and isn't told, is come to only where fewer than M are told.
	w.N, m.marks[a.N] = mark, mark
	return w
}

// within is what is to be answered in a transaction.
func (m *model) within(session int, x *txn.Txn, a wire.Ask) wire.Answer {
	v, unread := val.Decode(a.C)
	switch a.Op {
	case wire.MakeColl:
		c, e := schema.Decode(a.A, a.B)
		if e != api.OK {
			return wire.Fail(api.ErrArg)
		}
		return wire.Fail(schema.Make(x, c))
	case wire.Put:
		if unread != api.OK {
			return wire.Fail(api.ErrArg)
		}
		return wire.Fail(docs.Put(x, a.A, a.B, v, a.N))
	case wire.Patch:
		r := octet.Read(a.C)
		ops, e := patch.Decode(r)
		if e != api.OK || r.Left() > 0 {
			return wire.Fail(api.ErrArg)
		}
		return wire.Fail(docs.Patch(x, a.A, a.B, ops))
	case wire.Delete:
		return wire.Fail(docs.Delete(x, a.A, a.B))
	case wire.Get:
		v, e := docs.Get(x, a.A, a.B)
		return m.rows([]docs.Row{{Val: v}}, e, false)
	case wire.Scan:
		rows, e := docs.Scan(x, a.A, a.B, min(a.N, 100))
		return m.rows(rows, e, true)
	case wire.Query:
		hi, e := val.Decode(a.D)
		if unread != api.OK || e != api.OK {
			return wire.Fail(api.ErrArg)
		}
		rows, e := docs.Query(x, a.A, a.B, v, hi, min(a.N, 100))
		return m.rows(rows, e, true)
	}
	return m.message(session, x, a)
}

// message is what is to be answered of messages.
func (m *model) message(session int, x *txn.Txn, a wire.Ask) wire.Answer {
	switch a.Op {
	case wire.MakeQueue:
		return wire.Fail(queue.Make(x, queue.Queue{Name: a.A, Max: a.N, Dead: a.B}))
	case wire.Send:
		id, e := queue.Send(x, a.A, a.B, a.N)
		if e != api.OK {
			return wire.Fail(e)
		}
		return wire.Answer{Texts: []string{id}}
	case wire.Take:
		g, e := queue.Take(x, a.A, a.N, func(key string) bool {
			who, is := m.is[key]
			return is && who != session
		})
		if e != api.OK {
			return wire.Fail(e)
		}
		m.is[queue.Place(a.A, g.ID)] = session
		return wire.Answer{N: g.Count, Texts: []string{g.ID, g.Token, g.Body}}
	case wire.Ack:
		return wire.Fail(queue.Ack(x, a.A, a.B, a.C))
	case wire.Nack:
		return wire.Fail(queue.Nack(x, a.A, a.B, a.C, a.N))
	}
	return wire.Fail(queue.Extend(x, a.A, a.B, a.C, a.N))
}

// rows is documents as an answer: their values, or with how many there are, and their ids.
func (m *model) rows(rows []docs.Row, e api.Errno, all bool) wire.Answer {
	if e != api.OK {
		return wire.Fail(e)
	}
	w := wire.Answer{}
	for _, r := range rows {
		if all {
			w.N++
			w.Texts = append(w.Texts, r.ID)
		}
		w.Texts = append(w.Texts, code(m.t, r.Val))
	}
	return w
}

// live is how many messages a queue has behind the last commit.
func (m *model) live(name string) int {
	n := 0
	for range m.fold(len(m.made)).Range(queue.Place(name, ""), queue.Place(name, "\xff\xff"), len(m.made)) {
		n++
	}
	return n
}

// check holds a broker to be as the model.
func (m *model) check(what string, b *broker.Broker) {
	m.t.Helper()
	wantNum(m.t, what+": Now", b.Now(), m.now)
	wantNum(m.t, what+": At", b.At(), m.at)
	wantNum(m.t, what+": Low", b.Store().Low(), m.low)
	wantNum(m.t, what+": Last", b.Store().Last(), len(m.made))
	wantNum(m.t, what+": Horizon", b.Horizon(), m.horizon())
	for session := range 16 {
		if _, is := m.txns[session]; b.Open(session) != is {
			m.t.Errorf("%s: open %d: %t", what, session, !is)
		}
	}
	for _, name := range []string{"q", "d", "none"} {
		wantNum(m.t, what+": Live of "+name, b.Live(name), m.live(name))
	}
	list, e := b.Store().Since(m.low)
	want(m.t, what+": Since", e, api.OK)
	wantText(m.t, what+": commits", fmt.Sprint(list), fmt.Sprint(m.made[m.low:]))
	wantText(m.t, what+": Base", fmt.Sprint(b.Store().Base(m.low)), fmt.Sprint(m.fold(m.low).Base(m.low)))
}
