package broker

import (
	"mailbag/api"
	"mailbag/docs"
	"mailbag/octet"
	"mailbag/patch"
	"mailbag/queue"
	"mailbag/schema"
	"mailbag/txn"
	"mailbag/val"
	"mailbag/wire"
)

// do does what is asked of documents and messages, in a transaction.
func do(t *txn.Txn, a wire.Ask) wire.Answer {
	switch a.Op {
	case wire.MakeColl:
		return wire.Fail(makeColl(t, a))
	case wire.Put:
		return wire.Fail(put(t, a))
	case wire.Patch:
		return wire.Fail(change(t, a))
	case wire.Delete:
		return wire.Fail(docs.Delete(t, a.A, a.B))
	case wire.Get:
		return get(t, a)
	case wire.Scan:
		return scan(t, a)
	case wire.Query:
		return query(t, a)
	case wire.MakeQueue:
		return wire.Fail(queue.Make(t, queue.Queue{Name: a.A, Max: a.N, Dead: a.B}))
	case wire.Send:
		return send(t, a)
	case wire.Ack:
		return wire.Fail(queue.Ack(t, a.A, a.B, a.C))
	case wire.Nack:
		return wire.Fail(queue.Nack(t, a.A, a.B, a.C, a.N))
	case wire.Extend:
		return wire.Fail(queue.Extend(t, a.A, a.B, a.C, a.N))
	}
	return wire.Fail(api.ErrArg)
}

// makeColl makes the collection whose indexes are said.
func makeColl(t *txn.Txn, a wire.Ask) api.Errno {
	c, e := schema.Decode(a.A, a.B)
	if e != api.OK {
		return api.ErrArg
	}
	return schema.Make(t, c)
}

// put lets a document be there whose value is said.
func put(t *txn.Txn, a wire.Ask) api.Errno {
	v, e := val.Decode(a.C)
	if e != api.OK {
		return api.ErrArg
	}
	return docs.Put(t, a.A, a.B, v, a.N)
}

// change does the operations that are said to a document.
func change(t *txn.Txn, a wire.Ask) api.Errno {
	r := octet.Read(a.C)
	ops, e := patch.Decode(r)
	if e != api.OK || r.End() != api.OK {
		return api.ErrArg
	}
	return docs.Patch(t, a.A, a.B, ops)
}

// get tells a document's value.
func get(t *txn.Txn, a wire.Ask) wire.Answer {
	v, e := docs.Get(t, a.A, a.B)
	if e != api.OK {
		return wire.Fail(e)
	}
	text, e := v.Encode()
	if e != api.OK {
		return wire.Fail(e)
	}
	return wire.Answer{Texts: []string{text}}
}

// scan tells documents in the order of their ids.
func scan(t *txn.Txn, a wire.Ask) wire.Answer {
	return told(docs.Scan(t, a.A, a.B, min(a.N, MaxRows)))
}

// query tells documents in the order of an index.
func query(t *txn.Txn, a wire.Ask) wire.Answer {
	lo, e := val.Decode(a.C)
	if e != api.OK {
		return wire.Fail(api.ErrArg)
	}
	hi, e := val.Decode(a.D)
	if e != api.OK {
		return wire.Fail(api.ErrArg)
	}
	return told(docs.Query(t, a.A, a.B, lo, hi, min(a.N, MaxRows)))
}

// told tells documents: how many, and of each its id and its value.
func told(rows []docs.Row, e api.Errno) wire.Answer {
	if e != api.OK {
		return wire.Fail(e)
	}
	w := wire.Answer{N: len(rows)}
	for _, r := range rows {
		text, e := r.Val.Encode()
		if e != api.OK {
			return wire.Fail(e)
		}
		w.Texts = append(w.Texts, r.ID, text)
	}
	return w
}

// send lays a message into a queue.
func send(t *txn.Txn, a wire.Ask) wire.Answer {
	id, e := queue.Send(t, a.A, a.B, a.N)
	if e != api.OK {
		return wire.Fail(e)
	}
	return wire.Answer{Texts: []string{id}}
}
