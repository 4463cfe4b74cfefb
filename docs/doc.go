package docs

import (
	"iter"
	"strings"

	"mailbag/api"
	"mailbag/octet"
	"mailbag/ord"
	"mailbag/schema"
	"mailbag/txn"
	"mailbag/val"
)

// doc is a document of a collection.
type doc struct {
	coll schema.Coll
	id   string
	due  int
	val  val.Val
}

// reading makes a document of a key, and of what is kept there.
type reading func(key, kept string) (doc, api.Errno)

// right tells whether a document may be kept.
func (d doc) right() bool {
	return d.id != "" && len(d.id) <= MaxID && d.due >= 0 && d.due <= api.MaxTime && d.val.Kind == val.Map && d.val.Right()
}

// isThere tells whether a document isn't due yet.
func (d doc) isThere(now int) bool { return d.due == 0 || d.due > now }

// put lets a document be kept, in place of the one of its id.
func (d doc) put(t *txn.Txn) api.Errno {
	if e := d.entries(func(x schema.Index, key string) api.Errno { return d.free(t, x, key) }); e != api.OK {
		return e
	}
	old, is, e := kept(t, d.coll, d.id)
	if e != api.OK {
		return e
	}
	if is {
		if e := old.drop(t); e != api.OK {
			return e
		}
	}
	return d.keep(t)
}

// free tells ErrTwice, where an index that has each value once has another document's id at a key.
func (d doc) free(t *txn.Txn, x schema.Index, key string) api.Errno {
	if id, is := t.Get(key); x.Unique && is && id != d.id {
		return api.ErrTwice
	}
	return api.OK
}

// keep writes a document, and then its entries, so that no error lets an entry be without its document.
func (d doc) keep(t *txn.Txn) api.Errno {
	s, e := d.val.Encode()
	if e != api.OK {
		return e
	}
	if e := t.Put(d.coll.Doc(d.id), string(octet.Num(nil, d.due))+s); e != api.OK {
		return e
	}
	return d.entries(func(_ schema.Index, key string) api.Errno { return t.Put(key, d.id) })
}

// drop lets a document's entries go, and then the document, for the sake that keep names.
func (d doc) drop(t *txn.Txn) api.Errno {
	e := d.entries(func(_ schema.Index, key string) api.Errno {
		if id, is := t.Get(key); !is || id != d.id { // an error of writing came ahead of that entry
			return api.OK
		}
		return t.Drop(key)
	})
	if e != api.OK {
		return e
	}
	return t.Drop(d.coll.Doc(d.id))
}

// entries goes through the indexes that have the document, each with the key at which they do, up to the first error.
func (d doc) entries(do func(x schema.Index, key string) api.Errno) api.Errno {
	for _, x := range d.coll.Indexes {
		v, has := d.val.Get(x.Field)
		if !has {
			continue
		}
		if e := do(x, d.coll.Entry(x, v, d.id)); e != api.OK {
			return e
		}
	}
	return api.OK
}

// find is the document of an id that is there.
func find(t *txn.Txn, coll, id string) (doc, api.Errno) {
	c, e := schema.Of(t, coll)
	if e != api.OK {
		return doc{}, e
	}
	d, is, e := kept(t, c, id)
	if e != api.OK {
		return doc{}, e
	}
	if !is || !d.isThere(t.Now()) {
		return doc{}, api.ErrNone
	}
	return d, api.OK
}

// kept is the document of an id that is kept, due or not, and whether there is one.
func kept(t *txn.Txn, c schema.Coll, id string) (doc, bool, api.Errno) {
	s, is := t.Get(c.Doc(id))
	if !is {
		return doc{}, false, api.OK
	}
	d, e := read(c, id, s)
	return d, e == api.OK, e
}

// read is the document of an id of which bytes are kept.
func read(c schema.Coll, id, s string) (doc, api.Errno) {
	r := octet.Read(s)
	due := r.Num(api.MaxTime)
	v, e := val.Decode(r.Raw(r.Left())) // behind an error of r: of no bytes, which are no value's
	d := doc{coll: c, id: id, due: due, val: v}
	if e != api.OK || !d.right() {
		return doc{}, api.ErrBad
	}
	return d, api.OK
}

// readAt is the document of which bytes are kept at a key that begins as all of a collection do.
func readAt(c schema.Coll, key, s string) (doc, api.Errno) {
	id, rest, is := ord.Cut(strings.TrimPrefix(key, c.Docs()))
	if !is || rest != "" {
		return doc{}, api.ErrBad
	}
	return read(c, id, s)
}

// readBy is the document that an index has at a key, by the id that is kept there.
func readBy(t *txn.Txn, c schema.Coll, x schema.Index, key, id string) (doc, api.Errno) {
	d, is, e := kept(t, c, id)
	if e != api.OK {
		return doc{}, e
	}
	v, has := d.val.Get(x.Field)
	if !is || !has || c.Entry(x, v, id) != key {
		return doc{}, api.ErrBad
	}
	return d, api.OK
}

// first is the first most documents that are wanted, of those that are read. Behind these none is looked at.
func first(keys iter.Seq2[string, string], most int, read reading, wanted func(doc) bool) ([]doc, api.Errno) {
	var list []doc
	for key, kept := range keys {
		if len(list) >= most {
			break
		}
		d, e := read(key, kept)
		if e != api.OK {
			return nil, e
		}
		if wanted(d) {
			list = append(list, d)
		}
	}
	return list, api.OK
}
