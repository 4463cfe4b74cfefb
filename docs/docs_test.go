package docs_test

import (
	"fmt"
	"math"
	"reflect"
	"slices"
	"strings"
	"testing"

	"mailbag/api"
	"mailbag/docs"
	"mailbag/octet"
	"mailbag/patch"
	"mailbag/schema"
	"mailbag/store"
	"mailbag/txn"
	"mailbag/val"
)

// now is the time of most transactions here.
const now = 100

// field and mapOf are values, in short.
func field(name string, v val.Val) val.Field { return val.Field{Name: name, Val: v} }

func mapOf(fields ...val.Field) val.Val { return val.OfMap(fields...) }

// n is a document with a number.
func n(x int64) val.Val { return mapOf(field("n", val.OfInt(x))) }

// long is a text of so many bytes.
func long(n int) string { return strings.Repeat("x", n) }

// ix is an index, in short.
func ix(name, field string, unique bool) schema.Index {
	return schema.Index{Name: name, Field: field, Unique: unique}
}

// collC is a collection of two indexes of one field, and one of another.
func collC() schema.Coll {
	return schema.Coll{Name: "c", Indexes: []schema.Index{ix("i", "n", false), ix("u", "n", true), ix("m", "m", false)}}
}

// plain is a collection with an index.
func plain(name string) schema.Coll {
	return schema.Coll{Name: name, Indexes: []schema.Index{ix("i", "n", false)}}
}

// over is a transaction over such collections, at a time.
func over(t *testing.T, at int, list ...schema.Coll) *txn.Txn {
	t.Helper()
	s, _ := store.New(0, nil)
	x := txn.Begin(s, at, 1)
	for _, c := range list {
		want(t, "Make", schema.Make(x, c), api.OK)
	}
	return behind(t, s, x, at)
}

// behind is a transaction that sees what another one wrote, at a time.
func behind(t *testing.T, s *store.Store, x *txn.Txn, at int) *txn.Txn {
	t.Helper()
	want(t, "Commit", s.Commit(api.Commit{Seq: s.Last() + 1, Writes: x.Writes()}), api.OK)
	return txn.Begin(s, at, 1)
}

// storeOf is a store of what a transaction sees.
func storeOf(t *testing.T, x *txn.Txn) *store.Store {
	t.Helper()
	var list []api.Write
	for key, v := range x.Range("", "") {
		list = append(list, api.Write{Key: key, Val: v})
	}
	s, e := store.New(0, list)
	want(t, "New", e, api.OK)
	return s
}

// want holds an answer to be such an error.
func want(t *testing.T, what string, got, e api.Errno) {
	t.Helper()
	if got != e {
		t.Errorf("%s: %d, not %d", what, got, e)
	}
}

// wantText holds an answer to be such a text.
func wantText(t *testing.T, what, got, text string) {
	t.Helper()
	if got != text {
		t.Errorf("%s: %q, not %q", what, got, text)
	}
}

// put puts a document, and holds it to be taken.
func put(t *testing.T, x *txn.Txn, coll, id string, v val.Val, due int) {
	t.Helper()
	want(t, "Put of "+id, docs.Put(x, coll, id, v, due), api.OK)
}

// wantGet holds a Get to tell such a value.
func wantGet(t *testing.T, x *txn.Txn, coll, id string, v val.Val) {
	t.Helper()
	if got, e := docs.Get(x, coll, id); e != api.OK || !reflect.DeepEqual(got, v) {
		t.Errorf("Get of %q: %v, %d, not %v", id, got, e, v)
	}
}

// wantNot holds a Get to tell an error, and nothing else.
func wantNot(t *testing.T, x *txn.Txn, coll, id string, e api.Errno) {
	t.Helper()
	if got, other := docs.Get(x, coll, id); other != e || !reflect.DeepEqual(got, val.Val{}) {
		t.Errorf("Get of %q: %v, %d, not %d", id, got, other, e)
	}
}

// wantReap holds a Reap to tell so many.
func wantReap(t *testing.T, x *txn.Txn, most, want int) {
	t.Helper()
	if got, e := docs.Reap(x, most); got != want || e != api.OK {
		t.Errorf("Reap of %d: %d, %d, not %d", most, got, e, want)
	}
}

// ids is the ids of rows, or their error.
func ids(rows []docs.Row, e api.Errno) string {
	if e != api.OK {
		return fmt.Sprint("error ", e, " and ", len(rows))
	}
	var list []string
	for _, r := range rows {
		list = append(list, r.ID)
	}
	return strings.Join(list, " ")
}

// found is the ids that a Query by numbers tells.
func found(x *txn.Txn, coll, index string, lo, hi int64) string {
	return ids(docs.Query(x, coll, index, val.OfInt(lo), val.OfInt(hi), math.MaxInt))
}

// told is all that a transaction sees and wrote, as text.
func told(x *txn.Txn) string {
	var b strings.Builder
	for key, v := range x.Range("", "") {
		fmt.Fprintf(&b, "%q %q\n", key, v)
	}
	for _, w := range x.Writes() {
		fmt.Fprintf(&b, "%q %q %t\n", w.Key, w.Val, w.Gone)
	}
	return b.String()
}

// bytesOf is what is kept of a document.
func bytesOf(t *testing.T, v val.Val, due int) string {
	t.Helper()
	s, e := v.Encode()
	if e != api.OK {
		t.Fatal(e)
	}
	return string(octet.Num(nil, due)) + s
}

// The chapter's example.
func TestExample(t *testing.T) {
	x := over(t, now, plain("c"))
	put(t, x, "c", "a", n(5), 0)
	wantText(t, "Query", found(x, "c", "i", 5, 5), "a")
}

// P14.1: what is kept, byte by byte.
func TestKept(t *testing.T) {
	x := over(t, now, collC())
	before := told(x)
	put(t, x, "c", "a", mapOf(field("n", val.OfInt(5)), field("z", val.OfInt(1))), 0)
	put(t, x, "c", "\x00", mapOf(field("m", val.Val{})), 300)
	put(t, x, "c", "b", mapOf(), api.MaxTime)
	head, five := "c\x00\x01", "\x04\x80\x00\x00\x00\x00\x00\x00\x05"
	list := []api.Write{
		{Key: "d\x00\x01" + head + "\x00\xff\x00\x01", Val: "\x02\x01\x2c" + "\x05\x01\x01\x01\x01m\x00"},
		{Key: "d\x00\x01" + head + "a\x00\x01", Val: "\x00" + "\x05\x01\x02\x01\x01n\x02\x00\x01\x0a\x01\x01z\x02\x00\x01\x02"},
		{Key: "d\x00\x01" + head + "b\x00\x01", Val: "\x06\x01\x00\x00\x00\x00\x00" + "\x05\x00"},
		{Key: "i\x00\x01" + head + "i\x00\x01" + five + "a\x00\x01", Val: "a"},
		{Key: "i\x00\x01" + head + "m\x00\x01" + "\x02" + "\x00\xff\x00\x01", Val: "\x00"},
		{Key: "i\x00\x01" + head + "u\x00\x01" + five, Val: "a"},
	}
	if got := x.Writes(); !slices.Equal(got, list) {
		t.Errorf("%q", told(x))
	}
	for _, id := range []string{"a", "\x00", "b"} {
		want(t, "Delete", docs.Delete(x, "c", id), api.OK)
	}
	for key := range x.Range("d", "") {
		t.Errorf("left: %q", key)
	}
	if !strings.HasPrefix(told(x), before) || len(x.Writes()) != len(list) {
		t.Error(told(x))
	}
}

// wrongDocs are what is no document.
func wrongDocs() map[string]val.Val {
	deep := mapOf()
	for range api.MaxDeep {
		deep = mapOf(field("a", deep))
	}
	return map[string]val.Val{
		"Null":             {},
		"a Bool":           val.OfBool(true),
		"an Int":           val.OfInt(1),
		"a Text":           val.OfText("a"),
		"a List":           val.OfList(mapOf()),
		"an unknown kind":  {Kind: 6, Fields: []val.Field{field("a", val.Val{})}},
		"a kind below 0":   {Kind: -1},
		"a map and a text": {Kind: val.Map, Text: "a"},
		"fields that fall": {Kind: val.Map, Fields: []val.Field{field("n", val.Val{}), field("m", val.Val{})}},
		"a field twice":    {Kind: val.Map, Fields: []val.Field{field("n", val.Val{}), field("n", val.Val{})}},
		"a wrong part":     mapOf(field("n", val.Val{Kind: val.Null, Num: 1})),
		"too deep":         deep,
	}
}

// P14.1: ErrArg.
func TestPutOfWrong(t *testing.T) {
	x := over(t, now, collC())
	put(t, x, "c", "a", n(5), 0)
	ahead := told(x)
	for _, id := range []string{"", long(61), long(1000), strings.Repeat("\x00", 61)} {
		want(t, "id", docs.Put(x, "c", id, n(1), 0), api.ErrArg)
	}
	for _, due := range []int{math.MinInt, -1, api.MaxTime + 1, math.MaxInt} {
		want(t, fmt.Sprint("due ", due), docs.Put(x, "c", "a", n(1), due), api.ErrArg)
	}
	for what, v := range wrongDocs() {
		want(t, what, docs.Put(x, "c", "a", v, 0), api.ErrArg)
		want(t, what+" elsewhere", docs.Put(x, "d", "a", v, -1), api.ErrNone)
	}
	want(t, "ahead of ErrTwice", docs.Put(x, "c", "b", n(5), -1), api.ErrArg)
	wantText(t, "behind that", told(x), ahead)
	for _, id := range []string{"\x00", "b", long(60), strings.Repeat("\xff", 60), strings.Repeat("\x00", 60)} {
		put(t, x, "c", id, mapOf(), 0)
		wantGet(t, x, "c", id, val.Val{Kind: val.Map})
	}
	for _, due := range []int{now + 1, 1 << 30, api.MaxTime} {
		put(t, x, "c", "a", n(1), due)
		wantGet(t, x, "c", "a", n(1))
	}
}

// All calls tell Of's error first.
func TestNoCollection(t *testing.T) {
	x := over(t, now, collC())
	want(t, "a bad one", x.Put(schema.Coll{Name: "bad"}.Key(), "x"), api.OK)
	ahead := told(x)
	for coll, e := range map[string]api.Errno{"": api.ErrNone, "d": api.ErrNone, "C": api.ErrNone, "c\x00": api.ErrNone, long(1000): api.ErrNone, "bad": api.ErrForm} {
		want(t, "Put", docs.Put(x, coll, "", val.Val{}, -1), e)
		wantNot(t, x, coll, "", e)
		want(t, "Patch", docs.Patch(x, coll, "", make([]patch.Op, 51)), e)
		want(t, "Delete", docs.Delete(x, coll, ""), e)
		wantText(t, "Scan", ids(docs.Scan(x, coll, "", 9)), fmt.Sprint("error ", e, " and 0"))
		wantText(t, "Query", ids(docs.Query(x, coll, "none", val.Val{Kind: 9}, val.Val{Kind: 9}, 9)), fmt.Sprint("error ", e, " and 0"))
	}
	wantText(t, "behind that", told(x), ahead)
}

// A nil transaction has nothing.
func TestNil(t *testing.T) {
	want(t, "Put", docs.Put(nil, "c", "a", n(1), 0), api.ErrNone)
	want(t, "Patch", docs.Patch(nil, "c", "a", nil), api.ErrNone)
	want(t, "Delete", docs.Delete(nil, "c", "a"), api.ErrNone)
	wantNot(t, nil, "c", "a", api.ErrNone)
	wantText(t, "Scan", ids(docs.Scan(nil, "c", "", 9)), "error 5 and 0")
	wantText(t, "Query", ids(docs.Query(nil, "c", "i", n(1), n(1), 9)), "error 5 and 0")
	wantReap(t, nil, 9, 0)
}

// P14.1: of two documents of one id the last one is kept, with its entries alone, be the first one due or not.
func TestPutInPlace(t *testing.T) {
	for _, due := range []int{0, 1, now, now + 1} {
		alone := over(t, now, collC())
		v := mapOf(field("m", val.OfText("a")), field("n", val.OfInt(7)))
		put(t, alone, "c", "a", v, 500)
		for _, first := range []val.Val{mapOf(), n(5), v, mapOf(field("m", val.OfText("b"))), mapOf(field("z", val.OfText("b")))} {
			x := over(t, now, collC())
			put(t, x, "c", "a", first, due)
			put(t, x, "c", "a", v, 500)
			if seen, other := slices.Collect(keys(x)), slices.Collect(keys(alone)); !slices.Equal(seen, other) {
				t.Errorf("behind %v: %q, not %q", first, seen, other)
			}
			wantGet(t, x, "c", "a", v)
			wantText(t, "Query", found(x, "c", "u", 0, 9), "a")
		}
	}
}

// keys goes through all that a transaction sees, a key and its value in one.
func keys(x *txn.Txn) func(yield func(string) bool) {
	return func(yield func(string) bool) {
		for key, v := range x.Range("", "") {
			if !yield(fmt.Sprintf("%q %q", key, v)) {
				return
			}
		}
	}
}

// P14.1: ErrTwice, and nothing is turned.
func TestUnique(t *testing.T) {
	two := schema.Coll{Name: "t", Indexes: []schema.Index{ix("a", "n", true), ix("b", "m", true), ix("c", "k", false)}}
	nm := func(a, b int64) val.Val { return mapOf(field("m", val.OfInt(b)), field("n", val.OfInt(a))) }
	x := over(t, now, two, collC())
	put(t, x, "t", "1", nm(1, 10), 0)
	put(t, x, "t", "2", nm(2, 20), 0)
	put(t, x, "t", "3", mapOf(), 0)
	put(t, x, "t", "4", mapOf(field("k", val.OfInt(1))), 0)
	put(t, x, "t", "5", mapOf(field("k", val.OfInt(1))), 0)
	ahead := told(x)
	for i, v := range []val.Val{nm(1, 30), nm(3, 10), nm(1, 10), nm(2, 10), n(1), mapOf(field("m", val.OfInt(10)))} {
		for _, id := range []string{"2", "3", "9"} {
			want(t, fmt.Sprint("Put of ", i, " as ", id), docs.Put(x, "t", id, v, 0), api.ErrTwice)
		}
	}
	wantText(t, "behind that", told(x), ahead)
	put(t, x, "t", "1", nm(1, 10), 0)
	put(t, x, "t", "1", nm(1, 30), 0)
	put(t, x, "t", "3", mapOf(field("m", val.OfInt(10))), 0)
	put(t, x, "c", "9", nm(1, 30), 0)                                   // another collection
	put(t, x, "t", "6", mapOf(field("n", val.OfText("1"))), 0)          // other values
	put(t, x, "t", "7", mapOf(field("n", val.Val{})), 0)                // Null is a value,
	put(t, x, "t", "8", mapOf(field("n", val.OfList(val.OfInt(1)))), 0) // and so is a list
	want(t, "Null twice", docs.Put(x, "t", "9", mapOf(field("n", val.Val{})), 0), api.ErrTwice)
	want(t, "Delete", docs.Delete(x, "t", "7"), api.OK)
	put(t, x, "t", "9", mapOf(field("n", val.Val{})), 0)
}

// P14.1: a document that is due has its values still; so has one that isn't kept, as long as the entry is.
func TestUniqueOfDue(t *testing.T) {
	x := over(t, now, collC())
	put(t, x, "c", "1", n(5), now)
	wantNot(t, x, "c", "1", api.ErrNone)
	want(t, "another id", docs.Put(x, "c", "2", n(5), 0), api.ErrTwice)
	put(t, x, "c", "1", n(6), 0)
	put(t, x, "c", "2", n(5), now)
	wantReap(t, x, 9, 1)
	put(t, x, "c", "3", n(5), 0)
	c := collC()
	want(t, "an entry", x.Put(c.Entry(c.Indexes[1], val.OfInt(8), ""), "lost"), api.OK)
	want(t, "of none", docs.Put(x, "c", "4", n(8), 0), api.ErrTwice)
	put(t, x, "c", "lost", n(8), 0)
}

// P14.1: a document is there till it is due.
func TestDue(t *testing.T) {
	for _, at := range []int{0, 1, 7, now, api.MaxTime} {
		for _, due := range []int{0, 1, 6, 7, 8, now - 1, now, now + 1, api.MaxTime - 1, api.MaxTime} {
			x := over(t, at, collC())
			put(t, x, "c", "a", n(5), due)
			x1, e1 := docs.Scan(x, "c", "", 9)
			x2, e2 := docs.Query(x, "c", "u", val.OfInt(5), val.OfInt(5), 9)
			if due == 0 || due > at {
				wantGet(t, x, "c", "a", n(5))
				wantText(t, "Scan", ids(x1, e1), "a")
				wantText(t, "Query", ids(x2, e2), "a")
				wantReap(t, x, 9, 0)
				want(t, "Patch", docs.Patch(x, "c", "a", nil), api.OK)
				want(t, "Delete", docs.Delete(x, "c", "a"), api.OK)
				continue
			}
			wantNot(t, x, "c", "a", api.ErrNone)
			wantText(t, "Scan", ids(x1, e1), "")
			wantText(t, "Query", ids(x2, e2), "")
			want(t, "Patch", docs.Patch(x, "c", "a", make([]patch.Op, 51)), api.ErrNone)
			want(t, "Delete", docs.Delete(x, "c", "a"), api.ErrNone)
			wantReap(t, x, 9, 1)
		}
	}
}

// P14.1
func TestGet(t *testing.T) {
	x := over(t, now, collC(), plain("d"))
	v := mapOf(field("", val.Val{}), field("a", val.OfList(val.OfBool(true), val.OfText("\x00"), mapOf())), field("n", val.OfInt(math.MinInt64)))
	put(t, x, "c", "a", v, 0)
	wantGet(t, x, "c", "a", v)
	for _, id := range []string{"", "b", "a\x00", "A", long(60), long(61), long(1000)} {
		wantNot(t, x, "c", id, api.ErrNone)
	}
	wantNot(t, x, "d", "a", api.ErrNone)
	want(t, "Delete", docs.Delete(x, "c", "a"), api.OK)
	wantNot(t, x, "c", "a", api.ErrNone)
}

// op is an operation, in short.
func op(kind patch.Kind, v val.Val, path ...string) patch.Op {
	return patch.Op{Kind: kind, Path: path, Val: v}
}

// P14.1: Patch is Apply and Put, due as it was.
func TestPatch(t *testing.T) {
	x, y := over(t, now, collC()), over(t, now, collC())
	for _, due := range []int{0, now + 1, api.MaxTime} {
		v := mapOf(field("m", val.OfText("a")), field("n", val.OfInt(5)))
		put(t, x, "c", "a", v, due)
		ops := []patch.Op{op(patch.Add, val.OfInt(3), "n"), op(patch.Drop, val.Val{}, "m"), op(patch.Set, val.OfBool(true), "k")}
		want(t, "Patch", docs.Patch(x, "c", "a", ops), api.OK)
		put(t, y, "c", "a", v, due)
		put(t, y, "c", "a", mapOf(field("k", val.OfBool(true)), field("n", val.OfInt(8))), due)
		wantText(t, "Patch, as Put", told(x), told(y))
		wantText(t, "the old one", found(x, "c", "u", 5, 5), "")
		wantText(t, "the new one", found(x, "c", "u", 8, 8), "a")
		wantText(t, "what was dropped", ids(docs.Query(x, "c", "m", val.Val{}, mapOf(), 9)), "")
	}
	want(t, "of none", docs.Patch(x, "c", "a", nil), api.OK)
	wantText(t, "as it was", told(x), told(y))
}

// P14.1: Patch's errors, in order, and nothing is turned.
func TestPatchOfWrong(t *testing.T) {
	x := over(t, now, collC())
	put(t, x, "c", "a", mapOf(field("n", val.OfInt(5)), field("t", val.OfText("x"))), 0)
	put(t, x, "c", "b", n(6), 0)
	put(t, x, "c", "due", n(7), now)
	ahead := told(x)
	deep := mapOf()
	for range api.MaxDeep - 1 {
		deep = mapOf(field("a", deep))
	}
	for _, id := range []string{"", "c", "due", long(61)} {
		want(t, "no document", docs.Patch(x, "c", id, make([]patch.Op, 51)), api.ErrNone)
	}
	for i, c := range []struct {
		ops []patch.Op
		e   api.Errno
	}{
		{make([]patch.Op, 51), api.ErrLong},
		{make([]patch.Op, 1), api.ErrArg},
		{[]patch.Op{op(patch.Set, val.OfInt(6), "n"), op(patch.Set, val.OfInt(1))}, api.ErrArg},
		{[]patch.Op{op(patch.Set, val.OfInt(6), "n"), op(patch.Drop, val.Val{}, "no")}, api.ErrNone},
		{[]patch.Op{op(patch.Set, val.OfInt(6), "n"), op(patch.Add, val.OfInt(1), "t")}, api.ErrArg},
		{[]patch.Op{op(patch.Set, val.OfInt(6), "n"), op(patch.Set, deep, "d")}, api.ErrDeep},
		{[]patch.Op{op(patch.Set, val.OfInt(6), "n")}, api.ErrTwice},
		{[]patch.Op{op(patch.Add, val.OfInt(2), "n")}, api.ErrTwice},
		{[]patch.Op{op(patch.Add, val.OfInt(1), "n"), op(patch.Set, val.OfText(long(5000)), "t")}, api.ErrTwice},
	} {
		want(t, fmt.Sprint("Patch ", i), docs.Patch(x, "c", "a", c.ops), c.e)
	}
	wantText(t, "behind that", told(x), ahead)
	want(t, "what is right", docs.Patch(x, "c", "a", []patch.Op{op(patch.Add, val.OfInt(3), "n")}), api.OK)
}

// P14.1
func TestDelete(t *testing.T) {
	x := over(t, now, collC(), plain("d"))
	before := slices.Collect(keys(x))
	v := mapOf(field("m", val.OfInt(1)), field("n", val.OfInt(1)))
	put(t, x, "d", "a", v, 0)
	for _, id := range []string{"", "a", "b", long(61)} {
		ahead := told(x)
		want(t, "none", docs.Delete(x, "c", id), api.ErrNone)
		wantText(t, "behind that", told(x), ahead)
	}
	put(t, x, "c", "a", v, now+1)
	put(t, x, "c", "b", n(2), 0)
	want(t, "Delete of a", docs.Delete(x, "c", "a"), api.OK)
	want(t, "again", docs.Delete(x, "c", "a"), api.ErrNone)
	wantNot(t, x, "c", "a", api.ErrNone)
	wantGet(t, x, "c", "b", n(2))
	wantGet(t, x, "d", "a", v)
	wantText(t, "Query", found(x, "c", "u", 0, 9), "b")
	put(t, x, "c", "z", n(1), 0) // nobody has that value any more
	for _, d := range [][2]string{{"c", "b"}, {"c", "z"}, {"d", "a"}} {
		want(t, "Delete", docs.Delete(x, d[0], d[1]), api.OK)
	}
	if left := slices.Collect(keys(x)); !slices.Equal(left, before) {
		t.Error(left)
	}
}

// P14.2: Scan.
func TestScan(t *testing.T) {
	x := over(t, now, plain("b"), plain("b\x00"), plain("bb"), plain("\x00"), plain("a\xff"))
	all := []string{"\x00", "\x00\x00", "\x00\x01", "\x01", "a", "a\x00", "a\x00\x00", "a\x00b", "a\x01", "ab", "b", "\x80", "\xff", "\xff\xff", strings.Repeat("\xff", 60)}
	for i, id := range all {
		at := (i * 4) % len(all)
		put(t, x, "b", all[at], n(int64(at)), 0)
		for _, other := range []string{"b\x00", "bb", "\x00", "a\xff"} {
			put(t, x, other, id, n(9), 0)
		}
	}
	froms := append(slices.Clone(all), "", "\x00\x02", "aa", "c", long(1000), strings.Repeat("\xff", 61), strings.Repeat("\x00", 500))
	for _, from := range froms {
		var list []string
		for _, id := range all {
			if id >= from {
				list = append(list, id)
			}
		}
		for most := -2; most <= len(all)+2; most++ {
			wantText(t, fmt.Sprintf("Scan from %q, %d", from, most), ids(docs.Scan(x, "b", from, most)), strings.Join(list[:min(len(list), max(most, 0))], " "))
		}
		wantText(t, "all", ids(docs.Scan(x, "b", from, math.MaxInt)), strings.Join(list, " "))
		wantText(t, "none", ids(docs.Scan(x, "b", from, math.MinInt)), "")
	}
	rows, _ := docs.Scan(x, "b", "", 99)
	for i, r := range rows {
		if !reflect.DeepEqual(r.Val, n(int64(i))) {
			t.Error(i, r)
		}
	}
}

// P14.2: those that are due, or gone, don't count among the first most.
func TestScanOfThoseThere(t *testing.T) {
	s, _ := store.New(0, nil)
	x := txn.Begin(s, now, 1)
	want(t, "Make", schema.Make(x, plain("c")), api.OK)
	for i := range 60 {
		put(t, x, "c", fmt.Sprint(100+i), n(int64(i)), []int{0, now, now + 1, 1}[i%4])
	}
	x = behind(t, s, x, now)
	var list []string
	for i := range 60 {
		switch id := fmt.Sprint(100 + i); {
		case i%12 == 0:
			want(t, "Delete", docs.Delete(x, "c", id), api.OK)
		case i%12 == 1:
			put(t, x, "c", id, n(99), 0)
			list = append(list, id)
		case i%2 == 0:
			list = append(list, id)
		}
	}
	for most := range 70 {
		wantText(t, "Scan", ids(docs.Scan(x, "c", "", most)), strings.Join(list[:min(most, len(list))], " "))
	}
	wantText(t, "Query", found(x, "c", "i", 99, 99), "101 113 125 137 149")
}

// values are of all kinds, in order.
func values() []val.Val {
	return []val.Val{
		{},
		val.OfBool(false), val.OfBool(true),
		val.OfInt(math.MinInt64), val.OfInt(-256), val.OfInt(-1), val.OfInt(0), val.OfInt(1), val.OfInt(255), val.OfInt(256), val.OfInt(math.MaxInt64),
		val.OfText(""), val.OfText("\x00"), val.OfText("\x00\x00"), val.OfText("\x01"), val.OfText("a"), val.OfText("a\x00"), val.OfText("a\x00b"), val.OfText("ab"), val.OfText("\xff"), val.OfText("\xff\xff"),
		val.OfList(), val.OfList(val.Val{}), val.OfList(val.OfInt(1)), val.OfList(val.OfInt(1), val.Val{}), val.OfList(val.OfInt(2)), val.OfList(val.OfList()),
		mapOf(), mapOf(field("", val.Val{})), mapOf(field("a", val.Val{})), mapOf(field("a", val.OfInt(1))), mapOf(field("a", val.OfInt(1)), field("b", val.Val{})), mapOf(field("b", val.Val{})),
	}
}

// P14.2: Query, of values of all kinds, from each one to each one.
func TestQueryOfAllKinds(t *testing.T) {
	list := values()
	x := over(t, now, collC(), plain("b"), plain("cc"))
	for i := range list {
		at := (i * 7) % len(list)
		put(t, x, "c", fmt.Sprint(10+at), mapOf(field("n", list[at])), 0)
		put(t, x, []string{"b", "cc"}[i%2], fmt.Sprint("other", i), mapOf(field("n", list[at])), 0)
	}
	put(t, x, "c", "none", mapOf(field("m", val.OfInt(0))), 0)
	for lo := range list {
		for hi := range list {
			var parts []string
			for i := lo; i <= hi; i++ {
				parts = append(parts, fmt.Sprint(10+i))
			}
			for _, index := range []string{"i", "u"} {
				wantText(t, fmt.Sprint(index, " from ", lo, " to ", hi), ids(docs.Query(x, "c", index, list[lo], list[hi], 99)), strings.Join(parts, " "))
				wantText(t, "the first two", ids(docs.Query(x, "c", index, list[lo], list[hi], 2)), strings.Join(parts[:min(2, len(parts))], " "))
			}
		}
		rows, _ := docs.Query(x, "c", "u", list[lo], list[lo], 9)
		if len(rows) != 1 || !rows[0].Val.Same(mapOf(field("n", list[lo]))) || !rows[0].Val.Right() {
			t.Error(lo, rows)
		}
	}
	wantText(t, "between values", ids(docs.Query(x, "c", "i", val.OfInt(2), val.OfInt(255), 9)), "18")
	wantText(t, "of another field", ids(docs.Query(x, "c", "m", val.Val{}, mapOf(), 9)), "none")
}

// P14.2: documents of one value are in order of their ids; the first most are told, and those that are due don't count.
func TestQueryInOrder(t *testing.T) {
	x := over(t, now, plain("c"))
	all := []string{"\x00", "\x00\x01", "a", "a\x00", "ab", "b", "\xff", "\xff\xff"}
	for i := range all {
		id := all[(i*3)%len(all)]
		for v := range int64(2) {
			put(t, x, "c", id+fmt.Sprint(v), n(v), 0)
			put(t, x, "c", id+fmt.Sprint(v, "due"), n(v), now)
		}
	}
	var list []string
	for v := range 2 {
		for _, id := range all {
			list = append(list, id+fmt.Sprint(v))
		}
	}
	slices.Sort(list[:len(all)])
	slices.Sort(list[len(all):])
	for most := -1; most < 20; most++ {
		wantText(t, fmt.Sprint("Query of ", most), ids(docs.Query(x, "c", "i", val.OfInt(0), val.OfInt(1), most)), strings.Join(list[:min(max(most, 0), len(list))], " "))
	}
	wantText(t, "no Query", ids(docs.Query(x, "c", "i", val.OfInt(0), val.OfInt(1), math.MinInt)), "")
	wantText(t, "Query of 1", found(x, "c", "i", 1, 1), strings.Join(list[len(all):], " "))
}

// P14.2: Query's errors, in order.
func TestQueryOfWrong(t *testing.T) {
	x := over(t, now, collC())
	put(t, x, "c", "a", n(1), 0)
	ahead := told(x)
	for what, wrong := range wrongDocs() {
		if wrong.Right() {
			continue
		}
		for _, most := range []int{-1, 0, 9} {
			for _, bounds := range [][2]val.Val{{wrong, val.OfInt(1)}, {val.OfInt(1), wrong}, {wrong, wrong}} {
				wantText(t, what, ids(docs.Query(x, "c", "i", bounds[0], bounds[1], most)), "error 1 and 0")
				for _, index := range []string{"", "n", "I", "i\x00", long(1000)} {
					wantText(t, what+", no index", ids(docs.Query(x, "c", index, bounds[0], bounds[1], most)), "error 5 and 0")
				}
			}
		}
	}
	wantText(t, "behind that", told(x), ahead)
	wantText(t, "of what is right", found(x, "c", "i", 1, 1), "a")
}

// P14.3: in order of the collections' names, and then of the ids; so many at most.
func TestReap(t *testing.T) {
	names := []string{"\x00", "a", "a\x00", "ab", "b", "\xff"}
	places := []string{"\x00", "a", "a\x00", "b"}
	fill := func() *txn.Txn {
		var list []schema.Coll
		for _, name := range names {
			list = append(list, plain(name))
		}
		x := over(t, now, list...)
		for i := range names {
			for j := range places {
				name, id := names[(i*5)%len(names)], places[(j*3)%len(places)]
				put(t, x, name, id, n(1), 1+(i*j)%now)
				put(t, x, name, id+"later", n(1), now+1)
				put(t, x, name, id+"never", n(1), 0)
			}
		}
		return x
	}
	whole := slices.Collect(keys(fill()))
	for most := -2; most < 30; most++ {
		x := fill()
		count := min(max(most, 0), len(names)*len(places))
		wantReap(t, x, most, count)
		at := 0
		gone := 0
		for _, name := range names {
			c := plain(name)
			for _, id := range places {
				_, is := x.Get(c.Doc(id))
				_, has := x.Get(c.Entry(c.Indexes[0], val.OfInt(1), id))
				if is != (at >= count) || has != is {
					t.Errorf("%d of %d: %q %q: %t, %t", at, most, name, id, is, has)
				}
				at++
				if !is {
					gone++
				}
			}
		}
		if left := slices.Collect(keys(x)); len(left) != len(whole)-2*gone {
			t.Error(most, len(left), len(whole), gone)
		}
		wantReap(t, x, math.MaxInt, len(names)*len(places)-count)
		wantReap(t, x, math.MaxInt, 0)
		wantText(t, "Scan", ids(docs.Scan(x, "a", "", 99)), "\x00later \x00never a\x00later a\x00never alater anever blater bnever")
	}
	x := fill()
	wantReap(t, x, math.MinInt, 0)
	wantReap(t, over(t, now), 9, 0)
	wantReap(t, over(t, now, plain("a")), 9, 0)
}

// P14.3: what other ones wrote, and what the transaction wrote itself.
func TestReapOverCommits(t *testing.T) {
	s, _ := store.New(0, nil)
	x := txn.Begin(s, 1, 1)
	want(t, "Make", schema.Make(x, collC()), api.OK)
	for i := range 20 {
		put(t, x, "c", fmt.Sprint(10+i), n(int64(i)), 10+i)
	}
	x = behind(t, s, x, 20)
	want(t, "Make", schema.Make(x, plain("b")), api.OK)
	put(t, x, "b", "z", n(1), 20)
	put(t, x, "c", "12", n(2), 0)
	put(t, x, "c", "13", n(99), 21)
	put(t, x, "c", "25", n(25), 1)
	wantReap(t, x, 3, 3)
	wantNot(t, x, "b", "z", api.ErrNone)
	if _, is := x.Get(collC().Doc("14")); !is {
		t.Error("14 is gone")
	}
	wantReap(t, x, 99, 8)
	wantText(t, "left", ids(docs.Scan(x, "c", "", 99)), "12 13 21 22 23 24 26 27 28 29")
	wantText(t, "left, by value", found(x, "c", "u", -99, 99), "12 21 22 23 24 26 27 28 29 13")
	y := txn.Begin(s, 20, 2)
	wantReap(t, y, 99, 11)
	if s.Commit(api.Commit{Seq: 2, Writes: x.Writes()}) != api.OK || s.Free(y.Writes(), y.Snap()) {
		t.Error("both are committed")
	}
}

// P1: of two transactions that put one value into an index that has each once, only one may be committed; so of those that turn one document.
func TestTogether(t *testing.T) {
	s, _ := store.New(0, nil)
	x := txn.Begin(s, now, 1)
	want(t, "Make", schema.Make(x, collC()), api.OK)
	put(t, x, "c", "a", n(1), 0)
	put(t, x, "c", "b", n(2), 0)
	behind(t, s, x, now)
	inc := []patch.Op{op(patch.Add, val.OfInt(10), "n")}
	for _, both := range [][2]func(x *txn.Txn) api.Errno{
		{func(x *txn.Txn) api.Errno { return docs.Put(x, "c", "y", n(7), 0) }, func(x *txn.Txn) api.Errno { return docs.Put(x, "c", "z", n(7), 0) }},
		{func(x *txn.Txn) api.Errno { return docs.Patch(x, "c", "a", inc) }, func(x *txn.Txn) api.Errno { return docs.Delete(x, "c", "a") }},
		{func(x *txn.Txn) api.Errno { return docs.Patch(x, "c", "b", inc) }, func(x *txn.Txn) api.Errno { return docs.Put(x, "c", "q", n(2), 0) }},
	} {
		one, two := txn.Begin(s, now, 1), txn.Begin(s, now, 2)
		want(t, "one", both[0](one), api.OK)
		if e := both[1](two); e != api.OK && e != api.ErrTwice {
			t.Error(e)
		}
		ahead := told(two)
		behind(t, s, one, now)
		wantText(t, "two", told(two), ahead)
		if len(two.Writes()) > 0 && s.Free(two.Writes(), two.Snap()) {
			t.Error("both may be committed")
		}
	}
	x = txn.Begin(s, now, 3)
	wantText(t, "behind all", ids(docs.Scan(x, "c", "", 9)), "a b y")
}

// Rule 4: what is handed in is neither turned nor kept, and answers are apart.
func TestApart(t *testing.T) {
	make3 := func() val.Val {
		return mapOf(field("l", val.OfList(val.OfInt(1), mapOf(field("x", val.OfInt(2))))), field("n", val.OfInt(3)))
	}
	spoil := func(v val.Val) {
		for i := range v.Fields {
			for j := range v.Fields[i].Val.List {
				v.Fields[i].Val.List[j] = val.OfText("spoilt")
			}
			v.Fields[i] = field("spoilt", val.Val{})
		}
	}
	x := over(t, now, collC())
	v, lo := make3(), mapOf(field("n", val.OfInt(1)))
	put(t, x, "c", "a", v, 0)
	ops := []patch.Op{op(patch.Set, v, "in")}
	want(t, "Patch", docs.Patch(x, "c", "a", ops), api.OK)
	if !reflect.DeepEqual(v, make3()) || !reflect.DeepEqual(ops, []patch.Op{op(patch.Set, make3(), "in")}) {
		t.Error("turned:", v, ops)
	}
	spoil(v)
	whole := make3().With("in", make3())
	wantGet(t, x, "c", "a", whole)
	put(t, x, "c", "b", n(7), 0)
	for range 2 {
		got, _ := docs.Get(x, "c", "a")
		rows, _ := docs.Scan(x, "c", "", 9)
		asked, e := docs.Query(x, "c", "i", lo, lo, 9)
		if e != api.OK || len(asked) != 0 || len(rows) != 2 {
			t.Error(e, asked, rows)
		}
		asked, _ = docs.Query(x, "c", "i", val.OfInt(3), val.OfInt(3), 9)
		for _, one := range []val.Val{got, rows[0].Val, asked[0].Val} {
			if !reflect.DeepEqual(one, whole) {
				t.Error(one)
			}
			spoil(one)
		}
		rows[1] = docs.Row{}
	}
	wantGet(t, x, "c", "a", whole)
}
