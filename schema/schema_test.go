package schema_test

import (
	"fmt"
	"math"
	"reflect"
	"slices"
	"strings"
	"testing"

	"mailbag/api"
	"mailbag/octet"
	"mailbag/ord"
	"mailbag/schema"
	"mailbag/store"
	"mailbag/txn"
	"mailbag/val"
)

// ix is an index, in short.
func ix(name, field string, unique bool) schema.Index {
	return schema.Index{Name: name, Field: field, Unique: unique}
}

// coll is a collection, in short.
func coll(name string, list ...schema.Index) schema.Coll {
	return schema.Coll{Name: name, Indexes: list}
}

// many is so many indexes of unlike names.
func many(n int) []schema.Index {
	list := make([]schema.Index, n)
	for i := range list {
		list[i] = ix(fmt.Sprint("i", i), fmt.Sprint("f", i%3), i%2 == 0)
	}
	return list
}

// long is a text of so many bytes.
func long(n int) string { return strings.Repeat("x", n) }

// rightColls are collections.
func rightColls() []schema.Coll {
	return []schema.Coll{
		coll("a"),
		coll("\x00"),
		coll(long(40)),
		coll(strings.Repeat("\xff", 40)),
		coll("a", ix("i", "n", false)),
		coll("a", ix("i", "n", true)),
		coll("a", ix("a", "", false)),
		coll("a", ix(long(40), long(40), true)),
		coll("a", ix("i", "n", false), ix("u", "n", true), ix("I", "n", false), ix("i\x00", "", true)),
		coll("a", ix("b", "f", false), ix("a", "g", false)),
		coll("many", many(8)...),
	}
}

// wrongColls are none.
func wrongColls() map[string]schema.Coll {
	return map[string]schema.Coll{
		"zero":                {},
		"no name":             coll("", ix("i", "n", false)),
		"a long name":         coll(long(41)),
		"a longer name":       coll(long(1 << 20)),
		"an index of no name": coll("a", ix("", "n", false)),
		"a long index":        coll("a", ix(long(41), "n", false)),
		"a long field":        coll("a", ix("i", long(41), false)),
		"a wrong one at last": coll("a", append(many(7), ix("i", long(41), true))...),
		"too many":            coll("a", many(9)...),
		"far too many":        coll("a", many(1000)...),
		"a name twice":        coll("a", ix("i", "n", false), ix("i", "m", true)),
		"an index twice":      coll("a", ix("i", "n", false), ix("i", "n", false)),
		"a name twice, apart": coll("a", append(many(7), ix("i0", "z", true))...),
	}
}

// begin is a transaction over nothing.
func begin(t *testing.T) *txn.Txn {
	t.Helper()
	s, e := store.New(0, nil)
	if e != api.OK {
		t.Fatal(e)
	}
	return txn.Begin(s, 0, 1)
}

// want holds an answer to be such an error.
func want(t *testing.T, what string, got, e api.Errno) {
	t.Helper()
	if got != e {
		t.Errorf("%s: %d, not %d", what, got, e)
	}
}

// wantText holds an answer to be such a text.
func wantText(t *testing.T, what, got, text string) {
	t.Helper()
	if got != text {
		t.Errorf("%s: %q, not %q", what, got, text)
	}
}

// same tells whether two collections are the same, where nil and empty are one.
func same(a, b schema.Coll) bool { return a.Name == b.Name && slices.Equal(a.Indexes, b.Indexes) }

// The chapter's example.
func TestExample(t *testing.T) {
	wantText(t, "Key", coll("a").Key(), "\x63\x00\x01\x61\x00\x01")
}

// P13.1
func TestRight(t *testing.T) {
	for i, c := range rightColls() {
		if !c.Right() {
			t.Error(i, "isn't right")
		}
	}
	for what, c := range wrongColls() {
		if c.Right() {
			t.Error(what, "is right")
		}
	}
	if schema.MaxIndexes != 8 {
		t.Error(schema.MaxIndexes)
	}
	for n := range 20 {
		if got := coll("a", many(n)...).Right(); got != (n <= 8) {
			t.Error(n, "indexes:", got)
		}
		name, field, c := coll("a", ix(long(n+30), "f", false)), coll("a", ix("i", long(n+30), false)), coll(long(n+30))
		if is := n <= 10; name.Right() != is || field.Right() != is || c.Right() != is {
			t.Error(n+30, "bytes:", name.Right(), field.Right(), c.Right())
		}
	}
}

// P13.1: the keys, byte by byte.
func TestKeys(t *testing.T) {
	c, x, u := coll("a\x00b"), ix("i", "n", false), ix("u", "n", true)
	name := "a\x00\xffb\x00\x01"
	five := "\x04\x80\x00\x00\x00\x00\x00\x00\x05"
	wantText(t, "Key", c.Key(), "c\x00\x01"+name)
	wantText(t, "Docs", c.Docs(), "d\x00\x01"+name)
	wantText(t, "Doc", c.Doc("id"), "d\x00\x01"+name+"id\x00\x01")
	wantText(t, "Doc of none", c.Doc(""), "d\x00\x01"+name+"\x00\x01")
	wantText(t, "Doc of 0", c.Doc("\x00"), "d\x00\x01"+name+"\x00\xff\x00\x01")
	wantText(t, "Entries", c.Entries(x), "i\x00\x01"+name+"i\x00\x01")
	wantText(t, "Entry", c.Entry(x, val.OfInt(5), "id"), "i\x00\x01"+name+"i\x00\x01"+five+"id\x00\x01")
	wantText(t, "Entry, Unique", c.Entry(u, val.OfInt(5), "id"), "i\x00\x01"+name+"u\x00\x01"+five)
	wantText(t, "Entry of Null", c.Entry(x, val.Val{}, ""), "i\x00\x01"+name+"i\x00\x01\x02\x00\x01")
	wantText(t, "Entry of Null, Unique", c.Entry(u, val.Val{}, "id"), "i\x00\x01"+name+"u\x00\x01\x02")
}

// P13.1: the keys are made of names and values of any kind, whatever indexes the collection has.
func TestKeysOfAll(t *testing.T) {
	values := []val.Val{{}, val.OfBool(true), val.OfInt(math.MinInt64), val.OfText("a\x00"), val.OfList(val.OfInt(1), val.OfText("")), val.OfMap(val.Field{Name: "f", Val: val.OfBool(false)})}
	for _, name := range []string{"", "a", "\x00", "\xff", long(40), long(1000)} {
		for _, c := range []schema.Coll{coll(name), coll(name, many(3)...)} {
			wantText(t, "Key", c.Key(), ord.Key("c", name))
			wantText(t, "Docs", c.Docs(), ord.Key("d", name))
			for _, id := range []string{"", "a", "\x00", "\xff", long(1000)} {
				wantText(t, "Doc", c.Doc(id), ord.Key("d", name, id))
				for _, v := range values {
					entries := ord.Key("i", name, id)
					wantText(t, "Entries", c.Entries(ix(id, "f", true)), entries)
					wantText(t, "Entry", c.Entry(ix(id, "f", false), v, name), entries+string(ord.Val(nil, v))+ord.Key(name))
					wantText(t, "Entry, Unique", c.Entry(ix(id, "f", true), v, name), entries+string(ord.Val(nil, v)))
				}
			}
		}
	}
}

// P13.1
func TestFind(t *testing.T) {
	c := coll("a", ix("i", "n", false), ix("u", "n", true), ix("f", "i", false), ix("I", "", true))
	for _, x := range c.Indexes {
		if got, is := c.Find(x.Name); !is || got != x {
			t.Error(x, got, is)
		}
	}
	for _, name := range []string{"", "a", "n", "i\x00", "ii", "U", long(1000)} {
		if got, is := c.Find(name); is || got != (schema.Index{}) {
			t.Errorf("%q: %v, %t", name, got, is)
		}
		if got, is := coll("a").Find(name); is || got != (schema.Index{}) {
			t.Errorf("%q of none: %v, %t", name, got, is)
		}
	}
	for i, x := range many(8) {
		if got, is := coll("a", many(8)...).Find(x.Name); !is || got != x {
			t.Error(i, got, is)
		}
	}
}

// P13.2
func TestEncode(t *testing.T) {
	wantText(t, "of none", coll("a").Encode(), "\x00")
	wantText(t, "of one", coll("a", ix("i", "n", false)).Encode(), "\x01\x01"+"\x01\x01i\x01\x01n\x00")
	wantText(t, "of two", coll("b", ix("u", "", true), ix("i", "n\x00", false)).Encode(), "\x01\x02"+"\x01\x01u\x00\x01"+"\x01\x01i\x01\x02n\x00\x00")
	for i, c := range rightColls() {
		b := octet.Num(nil, len(c.Indexes))
		for _, x := range c.Indexes {
			b = octet.Flag(octet.Text(octet.Text(b, x.Name), x.Field), x.Unique)
		}
		wantText(t, fmt.Sprint(i), c.Encode(), string(b))
		if got, e := schema.Decode(c.Name, string(b)); e != api.OK || !same(got, c) {
			t.Error(i, got, e)
		}
	}
	for _, c := range wrongColls() {
		_ = c.Encode()
	}
}

// wantForm holds Decode to tell ErrForm, and nothing else.
func wantForm(t *testing.T, what, name, s string) {
	t.Helper()
	if c, e := schema.Decode(name, s); e != api.ErrForm || !reflect.DeepEqual(c, schema.Coll{}) {
		t.Errorf("%s: %v, %d", what, c, e)
	}
}

// P13.2: bytes that are no collection's, or of one that isn't Right.
func TestDecodeOfOthers(t *testing.T) {
	for what, c := range wrongColls() {
		wantForm(t, what, c.Name, c.Encode())
	}
	for _, name := range []string{"", long(41), long(1000)} {
		wantForm(t, "a name", name, "\x00")
	}
	for what, s := range map[string]string{
		"nothing":            "",
		"0 as a byte":        "\x01\x00",
		"1 as two bytes":     "\x02\x00\x01\x01\x01i\x00\x00",
		"no index":           "\x01\x01",
		"a flag 2":           "\x01\x01\x01\x01i\x00\x02",
		"a number behind":    "\x01\x01\x01\x01i\x00\x00\x00",
		"more than there is": "\x01\x02\x01\x01i\x00\x00",
		"too many":           "\x01\x09" + strings.Repeat("\x00\x00\x00", 9),
		"the most":           "\x08\x7f" + strings.Repeat("\xff", 7),
		"above all":          "\x09\x01" + strings.Repeat("\x00", 8),
	} {
		wantForm(t, what, "a", s)
	}
}

// P13.2: bytes cut off, with more behind them, or with one of them turned, are other bytes.
func TestDecodeIsStrict(t *testing.T) {
	for i, c := range rightColls() {
		s := c.Encode()
		for n := range len(s) {
			wantForm(t, fmt.Sprint(i, " cut off at ", n), c.Name, s[:n])
		}
		for _, more := range []string{"\x00", "\x01", "\xff", s} {
			wantForm(t, fmt.Sprint(i, " and more"), c.Name, s+more)
		}
		for at := range min(len(s), 60) {
			for turn := 1; turn < 256; turn++ {
				b := []byte(s)
				b[at] ^= byte(turn)
				got, e := schema.Decode(c.Name, string(b))
				if e == api.OK && (!got.Right() || got.Encode() != string(b) || got.Name != c.Name) || e != api.OK && (e != api.ErrForm || !same(got, schema.Coll{})) {
					t.Errorf("%d turned at %d: %v, %d", i, at, got, e)
				}
			}
		}
	}
}

// P13.3
func TestMakeAndOf(t *testing.T) {
	for i, c := range rightColls() {
		x := begin(t)
		if got, e := schema.Of(x, c.Name); e != api.ErrNone || !reflect.DeepEqual(got, schema.Coll{}) {
			t.Error(i, got, e)
		}
		want(t, "Make", schema.Make(x, c), api.OK)
		if got, e := schema.Of(x, c.Name); e != api.OK || !same(got, c) {
			t.Error(i, got, e)
		}
		for _, again := range []schema.Coll{c, coll(c.Name), coll(c.Name, ix("new", "f", true))} {
			want(t, "Make again", schema.Make(x, again), api.ErrTwice)
		}
		want(t, "Make of another one", schema.Make(x, coll("another")), api.OK)
		if list := x.Writes(); len(list) != 2 || !slices.Contains(list, api.Write{Key: c.Key(), Val: c.Encode()}) {
			t.Error(i, list)
		}
	}
}

// P13.3: ErrArg is ahead of ErrTwice, and nothing is written.
func TestMakeOfWrong(t *testing.T) {
	for what, c := range wrongColls() {
		x := begin(t)
		want(t, what, schema.Make(x, c), api.ErrArg)
		if len(x.Writes()) != 0 {
			t.Error(what, x.Writes())
		}
		want(t, "the right one", schema.Make(x, coll("a")), api.OK)
		want(t, what+", again", schema.Make(x, c), api.ErrArg)
		if len(x.Writes()) != 1 {
			t.Error(what, x.Writes())
		}
	}
	x := begin(t)
	for _, name := range []string{"", "a", long(41), long(1000)} {
		if got, e := schema.Of(x, name); e != api.ErrNone || !same(got, schema.Coll{}) {
			t.Errorf("%q: %v, %d", name, got, e)
		}
	}
}

// P13.3: what t tells counts, be it its own or what is committed, readable or not.
func TestOfWhatIsTold(t *testing.T) {
	s, _ := store.New(0, []api.Write{{Key: coll("bad").Key(), Val: "x"}, {Key: coll("c").Key(), Val: coll("", ix("i", "n", true)).Encode()}})
	x := txn.Begin(s, 0, 1)
	if got, e := schema.Of(x, "bad"); e != api.ErrForm || !same(got, schema.Coll{}) {
		t.Error(got, e)
	}
	if got, e := schema.Of(x, "c"); e != api.OK || !same(got, coll("c", ix("i", "n", true))) {
		t.Error(got, e)
	}
	want(t, "Make of bad", schema.Make(x, coll("bad")), api.ErrTwice)
	want(t, "Make of c", schema.Make(x, coll("c")), api.ErrTwice)
	want(t, "Drop", x.Drop(coll("c").Key()), api.OK)
	if _, e := schema.Of(x, "c"); e != api.ErrNone {
		t.Error(e)
	}
	want(t, "Make anew", schema.Make(x, coll("c")), api.OK)
	if got, e := schema.Of(x, "c"); e != api.OK || !same(got, coll("c")) {
		t.Error(got, e)
	}
	if got, e := schema.Of(txn.Begin(s, 0, 2), "c"); e != api.OK || len(got.Indexes) != 1 {
		t.Error(got, e)
	}
}

// P13.3: the error of writing.
func TestMakeOfTooMany(t *testing.T) {
	x := begin(t)
	for i := range api.MaxWrites {
		want(t, "Make", schema.Make(x, coll(fmt.Sprint(i))), api.OK)
	}
	want(t, "one more", schema.Make(x, coll("more")), api.ErrLong)
	want(t, "one of these", schema.Make(x, coll("7")), api.ErrTwice)
	want(t, "a wrong one", schema.Make(x, coll("")), api.ErrArg)
	if _, e := schema.Of(x, "more"); e != api.ErrNone {
		t.Error(e)
	}
}

// A nil transaction has nothing, and takes nothing.
func TestNil(t *testing.T) {
	if c, e := schema.Of(nil, "a"); e != api.ErrNone || !same(c, schema.Coll{}) {
		t.Error(c, e)
	}
	want(t, "Make", schema.Make(nil, coll("a")), api.ErrArg)
}

// Rule 4: what is handed in is neither changed nor kept, and answers are apart.
func TestApart(t *testing.T) {
	x := begin(t)
	c := coll("a", many(8)...)
	room := c.Indexes[:3:8]
	want(t, "Make", schema.Make(x, schema.Coll{Name: "a", Indexes: room}), api.OK)
	if !slices.Equal(c.Indexes, many(8)) {
		t.Error(c.Indexes)
	}
	c.Indexes[0] = ix("turned", "", true)
	one, _ := schema.Of(x, "a")
	two, _ := schema.Of(x, "a")
	one.Indexes[1] = ix("turned", "", true)
	if !slices.Equal(two.Indexes, many(3)) {
		t.Error(two)
	}
}
