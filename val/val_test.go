package val_test

import (
	"cmp"
	"math"
	"reflect"
	"slices"
	"testing"

	"mailbag/api"
	"mailbag/val"
)

// field is a field, in short.
func field(name string, v val.Val) val.Field { return val.Field{Name: name, Val: v} }

// mapOf is a map of fields as they stand.
func mapOf(fields ...val.Field) val.Val { return val.Val{Kind: val.Map, Fields: fields} }

// listOf is a list of values as they stand.
func listOf(list ...val.Val) val.Val { return val.Val{Kind: val.List, List: list} }

// inLists is a value in so many lists, inMaps in so many maps.
func inLists(n int, v val.Val) val.Val {
	for range n {
		v = listOf(v)
	}
	return v
}

func inMaps(n int, v val.Val) val.Val {
	for range n {
		v = mapOf(field("a", v))
	}
	return v
}

// rising are right values, each above the one ahead of it.
func rising() []val.Val {
	return []val.Val{
		{},
		val.OfBool(false),
		val.OfBool(true),
		val.OfInt(math.MinInt64),
		val.OfInt(math.MinInt64 + 1),
		val.OfInt(-1 << 32),
		val.OfInt(-256),
		val.OfInt(-1),
		val.OfInt(0),
		val.OfInt(1),
		val.OfInt(255),
		val.OfInt(1 << 32),
		val.OfInt(math.MaxInt64 - 1),
		val.OfInt(math.MaxInt64),
		val.OfText(""),
		val.OfText("\x00"),
		val.OfText("\x00\x00"),
		val.OfText("\x00\x01"),
		val.OfText("\x00\xff"),
		val.OfText("\x01"),
		val.OfText("B"),
		val.OfText("a"),
		val.OfText("a\x00"),
		val.OfText("a\x01"),
		val.OfText("aa"),
		val.OfText("a\xff"),
		val.OfText("b"),
		val.OfText("\u00e9"),
		val.OfText("\xff"),
		val.OfText("\xff\x00"),
		val.OfText("\xff\xff"),
		listOf(),
		listOf(val.Val{}),
		listOf(val.Val{}, val.Val{}),
		listOf(val.Val{}, val.OfInt(1)),
		listOf(val.OfInt(-1)),
		listOf(val.OfInt(-1), val.Val{}),
		listOf(val.OfInt(2)),
		listOf(val.OfText("")),
		listOf(val.OfText("\x00")),
		listOf(listOf()),
		listOf(listOf(), val.Val{}),
		listOf(listOf(val.Val{})),
		listOf(mapOf()),
		mapOf(),
		mapOf(field("", val.Val{})),
		mapOf(field("", val.Val{}), field("a", val.Val{})),
		mapOf(field("", val.OfInt(1))),
		mapOf(field("\x00", val.OfInt(0))),
		mapOf(field("a", val.Val{})),
		mapOf(field("a", val.Val{}), field("a\x00", val.Val{})),
		mapOf(field("a", val.Val{}), field("b", val.Val{})),
		mapOf(field("a", val.OfInt(-5))),
		mapOf(field("a", val.OfInt(-5)), field("b", val.Val{})),
		mapOf(field("a", val.OfInt(3))),
		mapOf(field("a", listOf())),
		mapOf(field("a", mapOf())),
		mapOf(field("a\x00", val.Val{})),
		mapOf(field("b", val.Val{})),
		mapOf(field("\xff", val.Val{})),
	}
}

// wrong are values that aren't right, by what is wrong with them.
func wrong() map[string]val.Val {
	return map[string]val.Val{
		"kind below":             {Kind: -1},
		"kind above":             {Kind: val.Map + 1},
		"kind of a byte and 1":   {Kind: 256 + val.Int},
		"least kind":             {Kind: math.MinInt},
		"greatest kind":          {Kind: math.MaxInt},
		"null and yes":           {Yes: true},
		"null and number":        {Num: 1},
		"null and text":          {Text: "a"},
		"null and list":          {List: []val.Val{{}}},
		"null and fields":        {Fields: []val.Field{{}}},
		"bool and number":        {Kind: val.Bool, Num: -1},
		"bool and text":          {Kind: val.Bool, Yes: true, Text: "\x00"},
		"bool and list":          {Kind: val.Bool, List: []val.Val{{}}},
		"bool and fields":        {Kind: val.Bool, Fields: []val.Field{{}}},
		"int and yes":            {Kind: val.Int, Yes: true},
		"int and text":           {Kind: val.Int, Num: 1, Text: "a"},
		"int and list":           {Kind: val.Int, List: []val.Val{{}}},
		"int and fields":         {Kind: val.Int, Fields: []val.Field{{}}},
		"text and yes":           {Kind: val.Text, Yes: true},
		"text and number":        {Kind: val.Text, Num: 1},
		"text and list":          {Kind: val.Text, List: []val.Val{{}}},
		"text and fields":        {Kind: val.Text, Text: "a", Fields: []val.Field{{}}},
		"list and yes":           {Kind: val.List, Yes: true},
		"list and number":        {Kind: val.List, Num: 1},
		"list and text":          {Kind: val.List, Text: "a"},
		"list and fields":        {Kind: val.List, Fields: []val.Field{{}}},
		"map and yes":            {Kind: val.Map, Yes: true},
		"map and number":         {Kind: val.Map, Num: 1},
		"map and text":           {Kind: val.Map, Text: "a"},
		"map and list":           {Kind: val.Map, List: []val.Val{{}}},
		"names twice":            mapOf(field("a", val.Val{}), field("a", val.Val{})),
		"no names twice":         mapOf(field("", val.Val{}), field("", val.OfInt(1))),
		"names that fall":        mapOf(field("b", val.Val{}), field("a", val.Val{})),
		"names that fall at end": mapOf(field("a", val.Val{}), field("b", val.Val{}), field("aa", val.Val{})),
		"names by length":        mapOf(field("b", val.Val{}), field("aa", val.Val{})),
		"wrong in a list":        listOf(val.OfInt(1), val.Val{Num: 1}),
		"wrong ahead in a list":  listOf(val.Val{Num: 1}, val.OfInt(1)),
		"wrong in a map":         mapOf(field("a", val.Val{}), field("b", val.Val{Kind: 9})),
		"wrong deep within":      inLists(10, inMaps(10, val.Val{Kind: val.Text, Num: 1})),
		"names deep within":      inMaps(10, mapOf(field("b", val.Val{}), field("a", val.Val{}))),
		"too deep by lists":      inLists(api.MaxDeep, val.Val{}),
		"too deep by maps":       inMaps(api.MaxDeep, val.OfInt(1)),
		"too deep by both":       inMaps(16, inLists(16, val.OfText("a"))),
		"too deep, of no values": inLists(api.MaxDeep, listOf()),
		"too deep at the end":    listOf(val.Val{}, inLists(api.MaxDeep-1, val.Val{})),
		"far too deep":           inLists(1<<16-1, val.Val{}),
	}
}

// P2.1
func TestRight(t *testing.T) {
	for i, v := range rising() {
		if !v.Right() {
			t.Errorf("value %d isn't right", i)
		}
	}
	empty := []val.Val{}
	none := []val.Field{}
	for kind := val.Null; kind <= val.Map; kind++ {
		if !(val.Val{Kind: kind, List: empty, Fields: none}).Right() {
			t.Errorf("of kind %d with nothing in it: isn't right", kind)
		}
	}
}

// P2.1
func TestNotRight(t *testing.T) {
	for what, v := range wrong() {
		if v.Right() {
			t.Errorf("%s: right", what)
		}
	}
}

// P2.1: MaxDeep values may be in each other, and not one more.
func TestRightByDepth(t *testing.T) {
	for n := range 2 * api.MaxDeep {
		for what, v := range map[string]val.Val{
			"lists":     inLists(n, val.OfInt(1)),
			"maps":      inMaps(n, val.Val{}),
			"both":      inLists(n-n/2, inMaps(n/2, val.OfBool(true))),
			"no values": inLists(n, listOf()),
			"no fields": inMaps(n, mapOf()),
		} {
			if want := n < api.MaxDeep; v.Right() != want {
				t.Errorf("%s, in %d others: right is %t", what, n, !want)
			}
		}
	}
}

// P2.1: a list that is in itself is found too deep.
func TestRightOfEndless(t *testing.T) {
	list := make([]val.Val, 2)
	list[0] = val.Val{Kind: val.List, List: list}
	list[1] = list[0]
	if list[0].Right() {
		t.Error("a list that is in itself is right")
	}
}

// P2.1
func TestOf(t *testing.T) {
	one := val.OfInt(1)
	for i, c := range []struct{ got, want val.Val }{
		{val.OfInt(0), val.Val{Kind: val.Int}},
		{val.OfInt(math.MinInt64), val.Val{Kind: val.Int, Num: math.MinInt64}},
		{val.OfText(""), val.Val{Kind: val.Text}},
		{val.OfText("a\x00\xff"), val.Val{Kind: val.Text, Text: "a\x00\xff"}},
		{val.OfBool(false), val.Val{Kind: val.Bool}},
		{val.OfBool(true), val.Val{Kind: val.Bool, Yes: true}},
		{val.OfList(), val.Val{Kind: val.List}},
		{val.OfList(one, val.Val{}, one), val.Val{Kind: val.List, List: []val.Val{one, {}, one}}},
		{val.OfMap(), val.Val{Kind: val.Map}},
		{val.OfMap(field("a", one)), mapOf(field("a", one))},
	} {
		if !reflect.DeepEqual(c.got, c.want) || !c.got.Right() {
			t.Errorf("%d: %v", i, c.got)
		}
	}
}

// P2.1: fields by their names' bytes, of one name the last one.
func TestOfMap(t *testing.T) {
	of := val.OfInt
	for i, c := range []struct{ fields, want []val.Field }{
		{
			[]val.Field{field("b", of(1)), field("a", of(2))},
			[]val.Field{field("a", of(2)), field("b", of(1))},
		},
		{
			[]val.Field{field("a", of(1)), field("a", of(2)), field("a", of(3))},
			[]val.Field{field("a", of(3))},
		},
		{
			[]val.Field{field("b", of(1)), field("", of(2)), field("b", of(3)), field("", of(4)), field("a", of(5))},
			[]val.Field{field("", of(4)), field("a", of(5)), field("b", of(3))},
		},
		{
			[]val.Field{field("a", of(9)), field("a", val.Val{})},
			[]val.Field{field("a", val.Val{})},
		},
		{
			[]val.Field{field("\xff", of(1)), field("\u00e9", of(2)), field("aa", of(3)), field("b", of(4)), field("B", of(5)), field("a\x00", of(6)), field("a", of(7))},
			[]val.Field{field("B", of(5)), field("a", of(7)), field("a\x00", of(6)), field("aa", of(3)), field("b", of(4)), field("\u00e9", of(2)), field("\xff", of(1))},
		},
	} {
		got := val.OfMap(c.fields...)
		if !reflect.DeepEqual(got, mapOf(c.want...)) || !got.Right() {
			t.Errorf("%d: %v", i, got)
		}
	}
}

// P2.1: of very many fields, too, the last one of each name.
func TestOfMapOfMany(t *testing.T) {
	var fields []val.Field
	for i := range 5000 {
		fields = append(fields, field(string(rune('a'+i*7%26)), val.OfInt(int64(i))))
	}
	got := val.OfMap(fields...)
	if len(got.Fields) != 26 || !got.Right() {
		t.Fatalf("%d fields", len(got.Fields))
	}
	for _, f := range got.Fields {
		n := int(f.Val.Num)
		if n < 5000-26 || string(rune('a'+n*7%26)) != f.Name {
			t.Errorf("of %s: %d", f.Name, n)
		}
	}
}

// sign is -1, 0 or 1, as a number is below, at or above 0.
func sign(n int) int {
	return min(max(n, -1), 1)
}

// P2.2
func TestCompare(t *testing.T) {
	all := rising()
	for i, v := range all {
		for k, o := range all {
			if got, want := sign(v.Compare(o)), sign(i-k); got != want {
				t.Errorf("Compare of %d and %d: %d", i, k, got)
			}
			if v.Same(o) != (i == k) {
				t.Errorf("Same of %d and %d: %t", i, k, v.Same(o))
			}
		}
	}
}

// P2.2: what is made anew, and what is empty in another way, is the same.
func TestSameOfOthers(t *testing.T) {
	again := rising()
	for i, v := range rising() {
		if !v.Same(again[i]) || v.Compare(again[i]) != 0 {
			t.Errorf("%d isn't the same", i)
		}
	}
	if !listOf([]val.Val{}...).Same(val.Val{Kind: val.List, Fields: []val.Field{}}) {
		t.Error("lists of nothing aren't the same")
	}
}

// P2.2: what comes first from the left tells.
func TestCompareFromTheLeft(t *testing.T) {
	for i, c := range []struct{ less, more val.Val }{
		{listOf(val.OfInt(1), val.OfInt(9), val.OfInt(9)), listOf(val.OfInt(2))},
		{listOf(val.OfInt(1), val.OfText("z")), listOf(val.OfInt(1), listOf())},
		{listOf(listOf(val.OfInt(1)), val.OfInt(9)), listOf(listOf(val.OfInt(1), val.Val{}), val.OfInt(1))},
		{mapOf(field("a", val.OfInt(9))), mapOf(field("b", val.OfInt(1)))},
		{mapOf(field("a", val.OfInt(1)), field("c", val.OfInt(1))), mapOf(field("a", val.OfInt(2)), field("b", val.OfInt(1)))},
		{mapOf(field("a", val.OfInt(1)), field("b", val.OfInt(9))), mapOf(field("a", val.OfInt(1)), field("c", val.Val{}))},
		{inLists(20, val.OfInt(1)), inLists(20, val.OfInt(2))},
		{inMaps(20, val.OfBool(false)), inMaps(20, val.OfBool(true))},
	} {
		if c.less.Compare(c.more) >= 0 || c.more.Compare(c.less) <= 0 || c.less.Same(c.more) {
			t.Errorf("%d: %d, %d", i, c.less.Compare(c.more), c.more.Compare(c.less))
		}
	}
}

// P2.2: values that aren't right are held against each other as well, first by their Kinds.
func TestCompareOfWrong(t *testing.T) {
	for what, v := range wrong() {
		for with, o := range wrong() {
			got := sign(v.Compare(o))
			if v.Kind != o.Kind && got != cmp.Compare(v.Kind, o.Kind) {
				t.Errorf("%s and %s: %d", what, with, got)
			}
			if got != -sign(o.Compare(v)) || v.Same(o) != (got == 0) {
				t.Errorf("%s and %s: %d, %d", what, with, got, o.Compare(v))
			}
		}
		if !v.Same(v) {
			t.Errorf("%s isn't the same as itself", what)
		}
	}
}

// some is a map with fields of several kinds.
func some() val.Val {
	return mapOf(field("", val.OfInt(1)), field("b", listOf(val.OfInt(2), listOf(val.OfInt(3)))), field("d", mapOf(field("x", val.OfInt(4)))))
}

// P2.2
func TestGet(t *testing.T) {
	for _, f := range some().Fields {
		if got, is := some().Get(f.Name); !is || !reflect.DeepEqual(got, f.Val) {
			t.Errorf("%q: %v, %t", f.Name, got, is)
		}
	}
	for _, name := range []string{"a", "c", "e", "x", "B", "b\x00", "bb", "\x00", "\xff"} {
		if got, is := some().Get(name); is || !reflect.DeepEqual(got, val.Val{}) {
			t.Errorf("%q: %v, %t", name, got, is)
		}
	}
	if got, is := mapOf(field("a", val.Val{})).Get("a"); !is || got.Kind != val.Null {
		t.Errorf("a field that is Null: %v, %t", got, is)
	}
}

// P2.2: what is no map has no fields, whatever lies in it.
func TestGetOfNoMap(t *testing.T) {
	for _, v := range append(rising()[:44], val.Val{Kind: val.List, Fields: []val.Field{{}}}, val.Val{Kind: 9, Fields: []val.Field{{}}}) {
		if got, is := v.Get(""); is || !reflect.DeepEqual(got, val.Val{}) {
			t.Errorf("of kind %d: %v, %t", v.Kind, got, is)
		}
	}
}

// P2.2
func TestWith(t *testing.T) {
	x := listOf(val.OfText("new"))
	for _, name := range []string{"", "\x00", "a", "b", "b\x00", "c", "d", "e", "\xff"} {
		got := some().With(name, x)
		want := val.OfMap(append(some().Fields, field(name, x))...)
		if !reflect.DeepEqual(got, want) || !got.Right() {
			t.Errorf("%q: %v", name, got)
		}
		if is, ok := got.Get(name); !ok || !is.Same(x) {
			t.Errorf("%q: %v, %t", name, is, ok)
		}
	}
	if got := mapOf().With("a", val.Val{}); !reflect.DeepEqual(got, mapOf(field("a", val.Val{}))) {
		t.Errorf("of no fields: %v", got)
	}
}

// P2.2
func TestWithout(t *testing.T) {
	for _, name := range []string{"", "\x00", "a", "b", "b\x00", "c", "d", "e", "\xff"} {
		got := some().Without(name)
		want := mapOf(slices.DeleteFunc(some().Fields, func(f val.Field) bool { return f.Name == name })...)
		if !reflect.DeepEqual(got, want) || !got.Right() {
			t.Errorf("%q: %v", name, got)
		}
	}
	if got := mapOf(field("a", val.Val{})).Without("a"); !got.Same(mapOf()) {
		t.Errorf("the one field: %v", got)
	}
}

// P2.2: of what is no map comes a map of that field alone, and one of none.
func TestWithAndWithoutOfNoMap(t *testing.T) {
	for _, v := range append(rising()[:44], val.Val{Kind: -1, Num: 1, Fields: []val.Field{field("b", val.Val{})}}) {
		if got := v.With("a", val.OfInt(1)); !reflect.DeepEqual(got, mapOf(field("a", val.OfInt(1)))) {
			t.Errorf("With of kind %d: %v", v.Kind, got)
		}
		if got := v.Without("a"); got.Kind != val.Map || !got.Same(mapOf()) || !got.Right() {
			t.Errorf("Without of kind %d: %v", v.Kind, got)
		}
	}
}

// P2.2: of a map whose names don't rise the others stay as they are, and what is asked for is done.
func TestMapWhoseNamesDontRise(t *testing.T) {
	m := mapOf(field("c", val.OfInt(1)), field("a", val.OfInt(2)), field("b", val.OfInt(3)))
	for _, f := range m.Fields {
		if got, is := m.Get(f.Name); !is || !got.Same(f.Val) {
			t.Errorf("Get of %s: %v, %t", f.Name, got, is)
		}
		if _, is := m.Without(f.Name).Get(f.Name); is {
			t.Errorf("Without %s: it is there", f.Name)
		}
	}
	for _, name := range []string{"", "a", "b", "c", "d"} {
		w := m.With(name, val.OfText("new"))
		if got, is := w.Get(name); !is || got.Text != "new" {
			t.Errorf("With %q: %v, %t", name, got, is)
		}
		if !w.Without(name).Same(m.Without(name)) {
			t.Errorf("With %q: others aren't as they were: %v", name, w)
		}
	}
}

// spoil overwrites whatever lists a value has.
func spoil(v val.Val) {
	for i := range v.List {
		spoil(v.List[i])
		v.List[i] = val.OfText("spoilt")
	}
	for i := range v.Fields {
		spoil(v.Fields[i].Val)
		v.Fields[i] = field("spoilt", val.OfText("spoilt"))
	}
}

// P2.1 and P2.2: an answer shares no list with what was handed in, nor two lists of it with each other.
func TestAnswersAreNew(t *testing.T) {
	for what, answer := range map[string]func(v val.Val) val.Val{
		"OfList":  func(v val.Val) val.Val { return val.OfList(v, v) },
		"OfMap":   func(v val.Val) val.Val { return val.OfMap(field("a", v), field("b", v)) },
		"Get":     func(v val.Val) val.Val { x, _ := v.Get("b"); return x },
		"With":    func(v val.Val) val.Val { return v.With("c", v) },
		"instead": func(v val.Val) val.Val { return v.With("b", v) },
		"Without": func(v val.Val) val.Val { return v.Without("") },
		"alone":   func(v val.Val) val.Val { return v.Without("no such") },
	} {
		given := some()
		got, again := answer(given), answer(given)
		if !reflect.DeepEqual(given, some()) {
			t.Errorf("%s turned what was handed in", what)
		}
		spoil(got)
		if !reflect.DeepEqual(given, some()) {
			t.Errorf("%s answered a list that was handed in", what)
		}
		spoil(given)
		if !reflect.DeepEqual(again, answer(some())) {
			t.Errorf("%s kept a list that was handed in", what)
		}
	}
}

// P2.1 and P2.2: no two parts of an answer share a list, though one value was handed in for both.
func TestPartsOfAnswersAreApart(t *testing.T) {
	x := some()
	twice := listOf(x, x)
	again := mapOf(field("a", x), field("b", x))
	for what, answer := range map[string]val.Val{
		"OfList":  val.OfList(x, x),
		"nested":  val.OfList(twice).List[0],
		"OfMap":   val.OfMap(field("a", x), field("b", x)),
		"With":    mapOf(field("a", x)).With("b", x),
		"others":  again.With("c", val.Val{}).Without("c"),
		"Without": again.Without(""),
	} {
		parts := slices.Clone(answer.List)
		for _, f := range answer.Fields {
			parts = append(parts, f.Val)
		}
		spoil(parts[0])
		if len(parts) != 2 || !reflect.DeepEqual(parts[1], some()) {
			t.Errorf("%s: %v", what, parts[1:])
		}
	}
}

// P2.1: lists that are handed in as they stand are neither turned nor kept.
func TestGivenListsStay(t *testing.T) {
	list := []val.Val{val.OfInt(2), val.OfInt(1)}
	l := val.OfList(list...)
	fields := []val.Field{field("b", val.OfInt(1)), field("a", val.OfInt(2)), field("b", val.OfInt(3))}
	was := slices.Clone(fields)
	m := val.OfMap(fields...)
	if !reflect.DeepEqual(fields, was) {
		t.Errorf("OfMap turned its fields: %v", fields)
	}
	list[0], fields[1] = val.Val{}, field("z", val.Val{})
	if l.List[0].Num != 2 || m.Fields[0].Name != "a" {
		t.Errorf("kept: %v, %v", l, m)
	}
}
