package broker

import (
	"mailbag/api"
	"mailbag/queue"
	"mailbag/rec"
	"mailbag/watch"
	"mailbag/wire"
)

// Do answers a session's question.
func (b *Broker) Do(session int, s string) wire.Answer {
	if b == nil || !isSession(session) {
		return wire.Fail(api.ErrArg)
	}
	a, e := wire.ReadAsk(s)
	if e != api.OK {
		return wire.Fail(e)
	}
	switch a.Op {
	case wire.Watch:
		return b.watch(a.N)
	case wire.Unwatch:
		return wire.Fail(b.marks.Drop(a.N))
	case wire.Poll:
		return b.poll(a.N, a.A, a.M)
	case wire.Begin:
		return b.enter(session)
	}
	if !b.Open(session) {
		return wire.Fail(api.ErrTurn)
	}
	switch a.Op {
	case wire.Commit:
		return b.leave(session)
	case wire.Abort:
		b.end(session)
		return wire.Fail(api.OK)
	}
	return b.within(session, a)
}

// watch holds a mark.
func (b *Broker) watch(mark int) wire.Answer {
	if _, e := b.Store().Since(mark); e != api.OK {
		return wire.Fail(e)
	}
	n, e := b.marks.Hold(mark)
	return wire.Answer{E: e, N: n}
}

// poll tells the commits behind a mark that is held, and moves it on.
func (b *Broker) poll(n int, prefix string, most int) wire.Answer {
	mark, is := b.marks.Mark(n)
	if !is {
		return wire.Fail(api.ErrNone)
	}
	batch, e := watch.Poll(b.Store(), mark, prefix, most)
	if e != api.OK {
		return wire.Fail(e)
	}
	w := wire.Answer{N: batch.Mark}
	for _, c := range batch.Commits {
		text, e := rec.Commit(c)
		if e != api.OK {
			return wire.Fail(e)
		}
		w.Texts = append(w.Texts, text)
	}
	if e := b.marks.Move(n, batch.Mark); e != api.OK {
		return wire.Fail(e)
	}
	return w
}

// enter begins a session's transaction.
func (b *Broker) enter(session int) wire.Answer {
	if b.Open(session) {
		return wire.Fail(api.ErrTurn)
	}
	t := b.begin()
	b.txns[session] = t
	return wire.Answer{N: t.Snap()}
}

// leave commits a session's transaction, which is at its end even where that tells an error.
func (b *Broker) leave(session int) wire.Answer {
	defer b.end(session)
	t := b.txns[session]
	n, e := b.Commit(t.Writes(), t.Snap(), t.Now())
	return wire.Answer{E: e, N: n}
}

// within does what is asked in a session's transaction, which is at its end behind errors that may leave half of that written.
func (b *Broker) within(session int, a wire.Ask) (w wire.Answer) {
	defer func() {
		switch w.E {
		case api.ErrArg, api.ErrLong, api.ErrBad:
			b.end(session)
		}
	}()
	if a.Op == wire.Take {
		return b.take(session, a.A, a.N)
	}
	return do(b.txns[session], a)
}

// take hands a message out to a session, which is at its place from then on, so that no other one takes it meanwhile.
func (b *Broker) take(session int, name string, lease int) wire.Answer {
	m, e := queue.Take(b.txns[session], name, lease, b.claims.Busy(session))
	if e != api.OK {
		return wire.Fail(e)
	}
	b.claims.Take(session, queue.Place(name, m.ID))
	return wire.Answer{N: m.Count, Texts: []string{m.ID, m.Token, m.Body}}
}
