package docs_test

import (
	"fmt"
	"math"
	"slices"
	"strings"
	"testing"

	"mailbag/api"
	"mailbag/docs"
	"mailbag/ord"
	"mailbag/patch"
	"mailbag/schema"
	"mailbag/txn"
	"mailbag/val"
)

// raw writes a key as it is.
func raw(t *testing.T, x *txn.Txn, key, v string) {
	t.Helper()
	want(t, fmt.Sprintf("the write of %q", key), x.Put(key, v), api.OK)
}

// bad are bytes that no document has.
func bad(t *testing.T) map[string]string {
	one := bytesOf(t, n(5), 0)
	return map[string]string{
		"nothing":            "",
		"no value":           "\x00",
		"no due":             one[1:],
		"0 as a byte":        "\x01" + one,
		"1 as two bytes":     "\x02\x00\x01" + one[1:],
		"due above MaxTime":  "\x06\x01\x00\x00\x00\x00\x01" + one[1:],
		"due above all":      "\x08\xff\xff\xff\xff\xff\xff\xff\xff" + one[1:],
		"cut off":            one[:len(one)-1],
		"more behind it":     one + "\x00",
		"Null":               "\x00\x00",
		"an Int":             "\x00\x02\x00\x00",
		"a List":             "\x00\x04\x01\x01" + one[1:],
		"fields that fall":   "\x00\x05\x01\x02\x01\x01n\x00\x01\x01m\x00",
		"a field twice":      "\x00\x05\x01\x02\x01\x01n\x00\x01\x01n\x00",
		"too deep":           "\x00\x05\x01\x01\x01\x01n" + strings.Repeat("\x04\x01\x01", 31) + "\x00",
		"an unknown kind":    "\x00\x06",
		"a collection's":     "\x01\x01\x01\x01i\x01\x01n\x00",
		"an id, as of entry": "1",
	}
}

// ErrBad of all calls, where what is kept isn't a document's; and nothing is turned.
func TestBad(t *testing.T) {
	for what, s := range bad(t) {
		x := over(t, now, plain("b"), collC(), plain("d"))
		put(t, x, "b", "due", n(1), 1)
		put(t, x, "c", "0", n(4), 0)
		put(t, x, "c", "1", n(5), 0)
		put(t, x, "c", "2", n(6), 1)
		raw(t, x, collC().Doc("1"), s)
		ahead := told(x)
		wantNot(t, x, "c", "1", api.ErrBad)
		want(t, what+": Put", docs.Put(x, "c", "1", n(7), 0), api.ErrBad)
		want(t, what+": Put, ErrArg", docs.Put(x, "c", "1", val.Val{}, 0), api.ErrArg)
		want(t, what+": Put, ErrTwice", docs.Put(x, "c", "1", n(6), 0), api.ErrTwice)
		want(t, what+": Patch", docs.Patch(x, "c", "1", nil), api.ErrBad)
		want(t, what+": Patch of too many", docs.Patch(x, "c", "1", make([]patch.Op, 51)), api.ErrBad)
		want(t, what+": Delete", docs.Delete(x, "c", "1"), api.ErrBad)
		for _, from := range []string{"", "0", "00", "1"} {
			wantText(t, what+": Scan", ids(docs.Scan(x, "c", from, 9)), "error 14 and 0")
		}
		for _, index := range []string{"i", "u"} {
			wantText(t, what+": Query", found(x, "c", index, 4, 5), "error 14 and 0")
			wantText(t, what+": Query of others", found(x, "c", index, 4, 4)+found(x, "c", index, 6, 6), "0")
		}
		if k, e := docs.Reap(x, 9); k != 0 || e != api.ErrBad {
			t.Errorf("%s: Reap: %d, %d", what, k, e)
		}
		wantText(t, what+": behind that", told(x), ahead)
		wantText(t, what+": Scan of others", ids(docs.Scan(x, "c", "2", 9)), "")
		wantGet(t, x, "c", "0", n(4))
		put(t, x, "c", "3", n(3), 0)
		wantReap(t, x, 1, 1)
	}
}

// Keys among a collection's documents that are no document's.
func TestBadKeys(t *testing.T) {
	c := collC()
	for _, key := range []string{c.Docs() + "x", c.Docs() + "x\x00", c.Docs() + "\x00\x02", c.Doc(""), c.Doc(long(61)), c.Doc("x") + "y", ord.Key("d", "c", "x", "y"), c.Doc("x") + "\x00"} {
		x := over(t, now, collC())
		raw(t, x, key, bytesOf(t, n(5), 1))
		wantText(t, "Scan", ids(docs.Scan(x, "c", "", 9)), "error 14 and 0")
		if k, e := docs.Reap(x, 9); k != 0 || e != api.ErrBad {
			t.Errorf("Reap beside %q: %d, %d", key, k, e)
		}
	}
}

// Keys among the collections that are no collection's: Reap looks at no documents of such.
func TestBadCollections(t *testing.T) {
	for key, e := range map[string]api.Errno{ord.Key("c"): api.ErrBad, ord.Key("c") + "x": api.ErrBad, ord.Key("c", "a", "b"): api.ErrBad, ord.Key("c", "c", ""): api.ErrBad, ord.Key("c", "bad"): api.ErrForm, ord.Key("c", ""): api.ErrForm} {
		x := over(t, now, collC(), plain("d"))
		put(t, x, "c", "a", n(4), 1)
		put(t, x, "d", "a", n(4), 1)
		raw(t, x, key, "x")
		ahead := told(x)
		if k, got := docs.Reap(x, 9); k != 0 || got != e {
			t.Errorf("Reap beside %q: %d, %d", key, k, got)
		}
		wantText(t, "behind that", told(x), ahead)
	}
}

// Entries that are of no document.
func TestBadEntries(t *testing.T) {
	c := collC()
	i, u := c.Indexes[0], c.Indexes[1]
	for what, w := range map[string]api.Write{
		"no document":      {Key: c.Entry(u, val.OfInt(5), ""), Val: "lost"},
		"no id":            {Key: c.Entry(u, val.OfInt(5), ""), Val: ""},
		"a long id":        {Key: c.Entry(u, val.OfInt(5), ""), Val: long(1000)},
		"another value's":  {Key: c.Entry(u, val.OfInt(5), ""), Val: "a"},
		"of no such field": {Key: c.Entry(u, val.OfInt(5), ""), Val: "b"},
		"a value, and x":   {Key: c.Entry(u, val.OfInt(5), "") + "x", Val: "a"},
		"another id":       {Key: c.Entry(i, val.OfInt(4), "b"), Val: "a"},
	} {
		x := over(t, now, c)
		put(t, x, "c", "a", n(4), 0)
		put(t, x, "c", "b", mapOf(field("m", val.OfInt(5))), 0)
		raw(t, x, w.Key, w.Val)
		ahead := told(x)
		both := ids(docs.Query(x, "c", "i", val.OfInt(0), val.OfInt(9), 9)) + ids(docs.Query(x, "c", "u", val.OfInt(0), val.OfInt(9), 9))
		if both != "aerror 14 and 0" && both != "error 14 and 0a" {
			t.Errorf("%s: %s", what, both)
		}
		wantText(t, what+": behind that", told(x), ahead)
	}
}

// textOf is a document of a text, that has so many bytes (above 300).
func textOf(t *testing.T, size int) val.Val {
	t.Helper()
	v := mapOf(field("t", val.OfText(long(size-10))))
	if s, e := v.Encode(); size <= api.MaxVal && (e != api.OK || len(s) != size) {
		t.Fatal(size, len(s), e)
	}
	return v
}

// P14.1: a value that is too long is layer 2's ErrLong, and layer 10's ErrArg, where there is no room for due.
func TestLongValues(t *testing.T) {
	for due, most := range map[int]int{0: api.MaxVal - 1, 101: api.MaxVal - 2, 300: api.MaxVal - 3, api.MaxTime: api.MaxVal - 7} {
		for size := api.MaxVal - 9; size < api.MaxVal+3; size++ {
			x := over(t, now, collC())
			e := api.OK
			switch {
			case size > api.MaxVal:
				e = api.ErrLong
			case size > most:
				e = api.ErrArg
			}
			want(t, fmt.Sprint(size, " bytes, due ", due), docs.Put(x, "c", "a", textOf(t, size), due), e)
			if e == api.OK {
				wantGet(t, x, "c", "a", textOf(t, size))
				continue
			}
			wantNot(t, x, "c", "a", api.ErrNone)
			put(t, x, "c", "a", mapOf(), 0)
			want(t, "Patch", docs.Patch(x, "c", "a", []patch.Op{op(patch.Set, val.OfText(long(5000)), "t")}), api.ErrLong)
		}
	}
	x := over(t, now, collC())
	put(t, x, "c", "a", n(5), 0)
	want(t, "ErrTwice ahead of that", docs.Put(x, "c", "b", textOf(t, 5000).With("n", val.OfInt(5)), 0), api.ErrTwice)
	want(t, "ErrArg ahead of that", docs.Put(x, "c", "", textOf(t, 5000), 0), api.ErrArg)
}

// wantWhole holds all that a transaction sees in a collection to be documents and their entries: that no call tells ErrBad, and that no entry is left when all documents are gone.
func wantWhole(t *testing.T, x *txn.Txn) {
	t.Helper()
	rows, e := docs.Scan(x, "c", "", math.MaxInt)
	want(t, "Scan", e, api.OK)
	for _, index := range []string{"i", "u", "m"} {
		_, e := docs.Query(x, "c", index, val.Val{}, values()[len(values())-1], math.MaxInt)
		want(t, "Query by "+index, e, api.OK)
	}
	s := storeOf(t, x)
	y := txn.Begin(s, now, 1)
	for _, r := range rows {
		want(t, "Delete", docs.Delete(y, "c", r.ID), api.OK)
	}
	for key := range y.Range("d", "") {
		t.Errorf("left: %q", key)
	}
}

// P14.1: a key that is too long is ErrArg; what was written ahead of it stays written.
func TestLongKeys(t *testing.T) {
	c := collC()
	most := api.MaxKey - len(c.Entry(c.Indexes[2], val.OfText(""), "a"))
	for size := most - 3; size < most+4; size++ {
		x := over(t, now, c)
		v := mapOf(field("m", val.OfText(long(size))), field("n", val.OfInt(1)))
		if size <= most {
			put(t, x, "c", "a", v, 0)
			wantText(t, "Query", ids(docs.Query(x, "c", "m", val.OfText(""), val.OfText("y"), 9)), "a")
			want(t, "a longer id", docs.Put(x, "c", "ab"+long(most-size), n(2).With("m", v.Fields[0].Val), 0), api.ErrArg)
			continue
		}
		put(t, x, "c", "a", n(7), 0)
		want(t, fmt.Sprint(size-most, " too many"), docs.Put(x, "c", "a", v, 0), api.ErrArg)
		wantGet(t, x, "c", "a", v)
		wantText(t, "the old one", found(x, "c", "u", 7, 7), "")
		wantText(t, "the new one", found(x, "c", "u", 1, 1), "a")
		wantWhole(t, x)
		put(t, x, "c", "a", n(8), 0)
		wantText(t, "one more", found(x, "c", "u", 0, 9), "a")
		wantWhole(t, x)
	}
	x := over(t, now, c)
	top := val.OfText(long(1000))
	wantText(t, "Query up to a long value", ids(docs.Query(x, "c", "m", top, top, 9)), "")
}

// P14.1: a document goes with its own entries alone, also where an error of writing came ahead of one, and another document has that value since.
func TestEntriesOfOthers(t *testing.T) {
	for what, call := range map[string]func(x *txn.Txn) api.Errno{
		"Delete": func(x *txn.Txn) api.Errno { return docs.Delete(x, "o", "a") },
		"Put":    func(x *txn.Txn) api.Errno { return docs.Put(x, "o", "a", mapOf(), 0) },
	} {
		x := over(t, now, schema.Coll{Name: "o", Indexes: []schema.Index{ix("m", "m", false), ix("u", "n", true)}})
		want(t, "a long key", docs.Put(x, "o", "a", n(1).With("m", val.OfText(long(500))), 0), api.ErrArg)
		put(t, x, "o", "b", n(1), 0)
		want(t, what, call(x), api.OK)
		wantText(t, what, found(x, "o", "u", 1, 1), "b")
		want(t, "Put of c", docs.Put(x, "o", "c", n(1), 0), api.ErrTwice)
		want(t, "Delete of b", docs.Delete(x, "o", "b"), api.OK)
		put(t, x, "o", "c", n(1), 0)
	}
}

// P14.1: layer 10's ErrLong ends all, wherever it comes; what was written ahead of it stays written.
func TestTooManyWrites(t *testing.T) {
	v, w := mapOf(field("m", val.OfInt(1)), field("n", val.OfInt(5))), mapOf(field("m", val.OfInt(2)), field("n", val.OfInt(6)))
	for what, c := range map[string]struct {
		need int
		call func(x *txn.Txn) api.Errno
	}{
		"Put of a new one":  {4, func(x *txn.Txn) api.Errno { return docs.Put(x, "c", "new", w.With("n", val.OfInt(9)), 0) }},
		"Put of no indexes": {1, func(x *txn.Txn) api.Errno { return docs.Put(x, "c", "new", mapOf(), 0) }},
		"Put in place":      {7, func(x *txn.Txn) api.Errno { return docs.Put(x, "c", "a", w, 0) }},
		"Put of the same":   {4, func(x *txn.Txn) api.Errno { return docs.Put(x, "c", "a", v, 7) }},
		"Patch": {6, func(x *txn.Txn) api.Errno {
			return docs.Patch(x, "c", "a", []patch.Op{op(patch.Add, val.OfInt(4), "n")})
		}},
		"Delete": {4, func(x *txn.Txn) api.Errno { return docs.Delete(x, "c", "a") }},
		"Reap":   {8, func(x *txn.Txn) api.Errno { _, e := docs.Reap(x, 9); return e }},
	} {
		for room := range c.need + 2 {
			x := over(t, now, collC())
			put(t, x, "c", "a", v, 0)
			put(t, x, "c", "due1", v.With("n", val.OfInt(11)), 1)
			put(t, x, "c", "due2", v.With("n", val.OfInt(12)), 2)
			x = txn.Begin(storeOf(t, x), now, 1)
			for i := range api.MaxWrites - room {
				raw(t, x, fmt.Sprint("\x01", i), "")
			}
			e := api.OK
			if room < c.need {
				e = api.ErrLong
			}
			want(t, fmt.Sprint(what, ", room ", room), c.call(x), e)
			if got := len(x.Writes()); got != api.MaxWrites-room+min(room, c.need) {
				t.Errorf("%s, room %d: %d writes", what, room, got)
			}
			for _, index := range []string{"i", "u", "m"} {
				if got := found(x, "c", index, 0, 99); strings.HasPrefix(got, "error") {
					t.Errorf("%s, room %d: Query by %s: %s", what, room, index, got)
				}
			}
		}
	}
	x := over(t, now, collC())
	for i := range 30 {
		put(t, x, "c", fmt.Sprint(100+i), n(int64(i)), 1)
	}
	x = txn.Begin(storeOf(t, x), now, 1)
	for i := range api.MaxWrites - 10 {
		raw(t, x, fmt.Sprint("\x01", i), "")
	}
	if k, e := docs.Reap(x, math.MaxInt); k != 0 || e != api.ErrLong {
		t.Error(k, e)
	}
	if list := slices.Collect(keys(x)); len(list) != 1+api.MaxWrites-10+90-10 {
		t.Error(len(list))
	}
}
