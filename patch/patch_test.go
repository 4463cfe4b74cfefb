package patch_test

import (
	"math"
	"reflect"
	"strings"
	"testing"

	"mailbag/api"
	"mailbag/patch"
	"mailbag/val"
)

// field is a field, in short.
func field(name string, v val.Val) val.Field { return val.Field{Name: name, Val: v} }

// mapOf is a map of fields as they stand.
func mapOf(fields ...val.Field) val.Val { return val.Val{Kind: val.Map, Fields: fields} }

// listOf is a list of values as they stand.
func listOf(list ...val.Val) val.Val { return val.Val{Kind: val.List, List: list} }

// inLists is a value in so many lists, inMaps in so many maps, each time the field a.
func inLists(n int, v val.Val) val.Val {
	for range n {
		v = listOf(v)
	}
	return v
}

func inMaps(n int, v val.Val) val.Val {
	for range n {
		v = mapOf(field("a", v))
	}
	return v
}

// set, drop and add are operations, in short.
func set(v val.Val, path ...string) patch.Op {
	return patch.Op{Kind: patch.Set, Path: path, Val: v}
}

func drop(path ...string) patch.Op { return patch.Op{Kind: patch.Drop, Path: path} }

func add(n int64, path ...string) patch.Op {
	return patch.Op{Kind: patch.Add, Path: path, Val: val.OfInt(n)}
}

// names is a path of so many names a.
func names(n int) []string {
	path := make([]string, n)
	for i := range path {
		path[i] = "a"
	}
	return path
}

// manyOps is so many operations that are right, and can be done to any map.
func manyOps(n int) []patch.Op {
	ops := make([]patch.Op, n)
	for i := range ops {
		ops[i] = set(val.OfInt(int64(i)), "a")
	}
	return ops
}

// rightOps are operations that are right.
func rightOps() []patch.Op {
	return []patch.Op{
		set(val.Val{}, "a"),
		set(val.OfBool(false), "a"),
		set(val.OfBool(true), ""),
		set(val.OfInt(-1), "\x00\xff"),
		set(val.OfText("x"), "a", "a", "b"),
		set(listOf(), "a"),
		set(listOf(val.OfInt(1), mapOf(field("b", val.Val{}))), "a"),
		set(mapOf(), "", ""),
		set(mapOf(field("a", listOf()), field("b", val.Val{})), "a"),
		set(val.OfInt(1), names(patch.MaxPath)...),
		set(inLists(api.MaxDeep-1, val.Val{}), "a"),
		set(inMaps(api.MaxDeep-1, val.Val{}), names(patch.MaxPath)...),
		set(val.OfText(strings.Repeat("x", 2*api.MaxVal)), "a"),
		set(val.Val{}, strings.Repeat("x", 2*api.MaxVal)),
		drop("a"),
		drop(names(patch.MaxPath)...),
		drop("", "b"),
		add(0, "a"),
		add(5, "a", ""),
		add(math.MinInt64, names(patch.MaxPath)...),
		add(math.MaxInt64, "\xff"),
	}
}

// wrongOps are operations that aren't right, by what is wrong with them.
func wrongOps() map[string]patch.Op {
	return map[string]patch.Op{
		"nothing":               {},
		"no kind":               {Path: names(1)},
		"kind below":            {Kind: -1, Path: names(1)},
		"kind above":            {Kind: patch.Add + 1, Path: names(1)},
		"kind above, of a Int":  {Kind: patch.Add + 1, Path: names(1), Val: val.OfInt(1)},
		"kind of a byte and 1":  {Kind: 256 + patch.Set, Path: names(1)},
		"least kind":            {Kind: math.MinInt, Path: names(1)},
		"greatest kind":         {Kind: math.MaxInt, Path: names(1)},
		"Set of no path":        set(val.OfInt(1)),
		"Drop of no path":       drop(),
		"Add of no path":        add(1),
		"Set of an empty path":  {Kind: patch.Set, Path: []string{}},
		"Set, too long a path":  set(val.OfInt(1), names(patch.MaxPath+1)...),
		"Drop, too long a path": drop(names(patch.MaxPath + 1)...),
		"Add, too long a path":  add(1, names(patch.MaxPath+1)...),
		"a far too long path":   drop(names(10000)...),
		"Set of a wrong value":  set(val.Val{Kind: val.Text, Num: 1}, "a"),
		"Set of no kind":        set(val.Val{Kind: val.Map + 1}, "a"),
		"Set, wrong within":     set(listOf(mapOf(field("b", val.Val{}), field("a", val.Val{}))), "a"),
		"Set of names twice":    set(mapOf(field("a", val.Val{}), field("a", val.Val{})), "a"),
		"Set of too deep":       set(inLists(api.MaxDeep, val.Val{}), "a"),
		"Drop of a Bool":        {Kind: patch.Drop, Path: names(1), Val: val.OfBool(false)},
		"Drop of an Int":        {Kind: patch.Drop, Path: names(1), Val: val.OfInt(0)},
		"Drop of a Text":        {Kind: patch.Drop, Path: names(1), Val: val.OfText("")},
		"Drop of a List":        {Kind: patch.Drop, Path: names(1), Val: listOf()},
		"Drop of a Map":         {Kind: patch.Drop, Path: names(1), Val: mapOf()},
		"Drop of a wrong Null":  {Kind: patch.Drop, Path: names(1), Val: val.Val{Num: 1}},
		"Add of Null":           {Kind: patch.Add, Path: names(1)},
		"Add of a Bool":         {Kind: patch.Add, Path: names(1), Val: val.OfBool(true)},
		"Add of a Text":         {Kind: patch.Add, Path: names(1), Val: val.OfText("1")},
		"Add of a List":         {Kind: patch.Add, Path: names(1), Val: listOf(val.OfInt(1))},
		"Add of a Map":          {Kind: patch.Add, Path: names(1), Val: mapOf()},
		"Add of a wrong Int":    {Kind: patch.Add, Path: names(1), Val: val.Val{Kind: val.Int, Num: 1, Text: "1"}},
	}
}

// endless is a list that is in itself, in a map.
func endless() val.Val {
	list := make([]val.Val, 2)
	list[0] = val.Val{Kind: val.List, List: list}
	list[1] = list[0]
	return mapOf(field("a", list[0]), field("n", val.OfInt(1)))
}

// P8.1
func TestRight(t *testing.T) {
	if patch.Set != 1 || patch.Drop != 2 || patch.Add != 3 {
		t.Error("kinds:", patch.Set, patch.Drop, patch.Add)
	}
	for i, o := range rightOps() {
		if !o.Right() {
			t.Errorf("%d isn't right", i)
		}
	}
	for what, o := range wrongOps() {
		if o.Right() {
			t.Errorf("%s: right", what)
		}
	}
	if set(endless(), "a").Right() {
		t.Error("Set of what is in itself is right")
	}
}

// P8.1: each length of a path.
func TestRightByPath(t *testing.T) {
	for n := range 2 * patch.MaxPath {
		want := n >= 1 && n <= 16
		for _, o := range []patch.Op{set(val.Val{}, names(n)...), drop(names(n)...), add(1, names(n)...)} {
			if o.Right() != want {
				t.Errorf("%d, path of %d: %t", o.Kind, n, !want)
			}
		}
	}
}

// doc is a document of all kinds of fields.
func doc() val.Val {
	return mapOf(
		field("", val.OfInt(0)),
		field("in", mapOf(field("", mapOf(field("z", val.OfInt(-3)))), field("x", val.OfInt(1)), field("y", val.Val{}))),
		field("list", listOf(val.OfInt(1), mapOf(field("x", val.OfInt(2))))),
		field("n", val.OfInt(5)),
		field("no", val.Val{}),
		field("none", mapOf()),
		field("t", val.OfText("5")),
		field("yes", val.OfBool(true)),
	)
}

// with is doc with another value of a field; without is it without one.
func with(name string, v val.Val) val.Val { return doc().With(name, v) }

func without(name string) val.Val { return doc().Without(name) }

// in is the field in of doc.
func in() val.Val {
	v, _ := doc().Get("in")
	return v
}

// wantApply holds Apply to an answer, and to leave what it is handed as it is.
func wantApply(t *testing.T, what string, v val.Val, ops []patch.Op, want val.Val, wantE api.Errno) {
	t.Helper()
	got, e := patch.Apply(v, ops)
	if e != wantE || !got.Same(want) || e != api.OK && !reflect.DeepEqual(got, val.Val{}) {
		t.Errorf("%s: %v, %d, not %v, %d", what, got, e, want, wantE)
	}
	if e == api.OK && !got.Right() {
		t.Errorf("%s: %v isn't right", what, got)
	}
}

// P8.2, and the chapter's example.
func TestExample(t *testing.T) {
	wantApply(t, "example", mapOf(field("n", val.OfInt(5))), []patch.Op{add(2, "n")}, mapOf(field("n", val.OfInt(7))), api.OK)
}

// P8.2
func TestSet(t *testing.T) {
	x := listOf(val.OfText("new"))
	for i, c := range []struct {
		path []string
		want val.Val
	}{
		{[]string{"n"}, with("n", x)},
		{[]string{""}, with("", x)},
		{[]string{"in"}, with("in", x)},
		{[]string{"list"}, with("list", x)},
		{[]string{"yes"}, with("yes", x)},
		{[]string{"A"}, with("A", x)},
		{[]string{"\x00"}, with("\x00", x)},
		{[]string{"i"}, with("i", x)},
		{[]string{"nn"}, with("nn", x)},
		{[]string{"zz"}, with("zz", x)},
		{[]string{"\xff"}, with("\xff", x)},
		{[]string{"in", "x"}, with("in", in().With("x", x))},
		{[]string{"in", "y"}, with("in", in().With("y", x))},
		{[]string{"in", "xx"}, with("in", in().With("xx", x))},
		{[]string{"in", "n"}, with("in", in().With("n", x))},
		{[]string{"in", ""}, with("in", in().With("", x))},
		{[]string{"in", "", "z"}, with("in", in().With("", mapOf(field("z", x))))},
		{[]string{"in", "", ""}, with("in", in().With("", mapOf(field("", x), field("z", val.OfInt(-3)))))},
		{[]string{"none", "a"}, with("none", mapOf(field("a", x)))},
	} {
		wantApply(t, "Set "+strings.Join(c.path, "."), doc(), []patch.Op{set(x, c.path...)}, c.want, api.OK)
		if !c.want.Right() {
			t.Error("the test itself is wrong:", i)
		}
	}
	wantApply(t, "Set in no fields", mapOf(), []patch.Op{set(x, "a")}, mapOf(field("a", x)), api.OK)
}

// P8.2: of all kinds a field may be Set to.
func TestSetOfEachKind(t *testing.T) {
	for _, x := range []val.Val{{}, val.OfBool(false), val.OfBool(true), val.OfInt(math.MinInt64), val.OfText(""), val.OfText("\x00"), listOf(), doc(), mapOf(), inLists(30, val.OfInt(1))} {
		wantApply(t, "Set", doc(), []patch.Op{set(x, "n")}, with("n", x), api.OK)
		wantApply(t, "Set anew", doc(), []patch.Op{set(x, "new")}, with("new", x), api.OK)
	}
}

// P8.2
func TestDrop(t *testing.T) {
	for _, f := range doc().Fields {
		wantApply(t, "Drop "+f.Name, doc(), []patch.Op{drop(f.Name)}, without(f.Name), api.OK)
	}
	for _, f := range in().Fields {
		wantApply(t, "Drop in."+f.Name, doc(), []patch.Op{drop("in", f.Name)}, with("in", in().Without(f.Name)), api.OK)
	}
	wantApply(t, "Drop deeper", doc(), []patch.Op{drop("in", "", "z")}, with("in", in().With("", mapOf())), api.OK)
	wantApply(t, "Drop all", mapOf(field("a", val.Val{})), []patch.Op{drop("a")}, mapOf(), api.OK)
}

// P8.2
func TestAdd(t *testing.T) {
	for _, n := range []int64{0, 1, -1, 2, -5, -6, 1 << 32, -1 << 32, math.MaxInt64 - 5, math.MinInt64} {
		wantApply(t, "Add to n", doc(), []patch.Op{add(n, "n")}, with("n", val.OfInt(5+n)), api.OK)
	}
	wantApply(t, "Add to in.x", doc(), []patch.Op{add(-9, "in", "x")}, with("in", in().With("x", val.OfInt(-8))), api.OK)
	wantApply(t, "Add to in..z", doc(), []patch.Op{add(3, "in", "", "z")}, with("in", in().With("", mapOf(field("z", val.OfInt(0))))), api.OK)
}

// P8.2: a sum goes into 64 bits, or it is ErrArg.
func TestAddAtTheBounds(t *testing.T) {
	const most, least = math.MaxInt64, math.MinInt64
	for _, c := range []struct {
		x, n int64
		fits bool
	}{
		{most, 0, true}, {most, 1, false}, {most, most, false}, {most, -1, true}, {most, least, true},
		{most - 1, 1, true}, {most - 1, 2, false}, {1, most - 1, true}, {1, most, false}, {0, most, true}, {-1, most, true},
		{least, 0, true}, {least, -1, false}, {least, least, false}, {least, 1, true}, {least, most, true},
		{least + 1, -1, true}, {least + 1, -2, false}, {-1, least + 1, true}, {-1, least, false}, {0, least, true}, {1, least, true},
		{1 << 62, 1 << 62, false}, {1 << 62, 1<<62 - 1, true}, {-1 << 62, -1 << 62, true}, {-1 << 62, -1<<62 - 1, false},
	} {
		v := mapOf(field("n", val.OfInt(c.x)))
		want, e := val.Val{}, api.ErrArg
		if c.fits {
			want, e = mapOf(field("n", val.OfInt(c.x+c.n))), api.OK
		}
		wantApply(t, "Add", v, []patch.Op{add(c.n, "n")}, want, e)
	}
}

// P8.2: what is no Int can't be added to.
func TestAddToNoInt(t *testing.T) {
	for _, path := range [][]string{{"in"}, {"list"}, {"no"}, {"none"}, {"t"}, {"yes"}, {"in", "y"}, {"in", ""}} {
		for _, n := range []int64{0, 1, math.MinInt64} {
			wantApply(t, "Add to "+strings.Join(path, "."), doc(), []patch.Op{add(n, path...)}, val.Val{}, api.ErrArg)
		}
	}
}

// P8.2: Drop and Add of a field that isn't there.
func TestOfNone(t *testing.T) {
	for _, path := range [][]string{{"a"}, {"\x00"}, {"N"}, {"i"}, {"inn"}, {"n\x00"}, {"z"}, {"x"}, {"in", "n"}, {"in", "z"}, {"in", "a"}, {"in", "\xff"}, {"in", "", "x"}, {"none", ""}} {
		wantApply(t, "Drop "+strings.Join(path, "."), doc(), []patch.Op{drop(path...)}, val.Val{}, api.ErrNone)
		wantApply(t, "Add "+strings.Join(path, "."), doc(), []patch.Op{add(1, path...)}, val.Val{}, api.ErrNone)
	}
}

// P8.2: a path goes through maps that are there, and nothing else.
func TestPathOfNone(t *testing.T) {
	paths := [][]string{
		{"a", "x"}, {"no such", "x", "y"}, {"in", "a", "x"}, {"none", "a", "x"}, {"none", "", ""},
		{"n", "x"}, {"", ""}, {"t", "5"}, {"yes", "x"}, {"no", "x"}, {"no", ""},
		{"list", "x"}, {"list", "0"}, {"list", ""}, {"list", "1", "x"},
		{"in", "x", "x"}, {"in", "y", "y"}, {"in", "", "z", "z"}, {"n", "x", "y", "z"},
		append([]string{"n"}, names(patch.MaxPath-1)...),
		append([]string{"in", ""}, names(patch.MaxPath-2)...),
	}
	for _, path := range paths {
		for _, o := range []patch.Op{set(val.OfInt(1), path...), drop(path...), add(1, path...)} {
			wantApply(t, strings.Join(path, "."), doc(), []patch.Op{o}, val.Val{}, api.ErrNone)
		}
	}
}

// P8.2: a value that is no map has no fields; without operations it is what it was.
func TestOfNoMap(t *testing.T) {
	for _, v := range []val.Val{{}, val.OfBool(true), val.OfInt(5), val.OfText("a"), listOf(), listOf(mapOf(field("a", val.OfInt(1))))} {
		for _, o := range []patch.Op{set(val.Val{}, "a"), drop("a"), add(1, "a"), set(val.Val{}, ""), set(val.Val{}, "a", "b")} {
			wantApply(t, "of no map", v, []patch.Op{o}, val.Val{}, api.ErrNone)
		}
		wantApply(t, "no operations", v, nil, v, api.OK)
	}
	wantApply(t, "no operations", doc(), nil, doc(), api.OK)
	wantApply(t, "no operations", doc(), []patch.Op{}, doc(), api.OK)
}

// P8.2: a path may have all the names there may be.
func TestLongestPath(t *testing.T) {
	v := inMaps(patch.MaxPath, val.OfInt(5))
	path := names(patch.MaxPath)
	wantApply(t, "Add", v, []patch.Op{add(2, path...)}, inMaps(patch.MaxPath, val.OfInt(7)), api.OK)
	wantApply(t, "Set", v, []patch.Op{set(val.OfText("x"), path...)}, inMaps(patch.MaxPath, val.OfText("x")), api.OK)
	wantApply(t, "Drop", v, []patch.Op{drop(path...)}, inMaps(patch.MaxPath-1, mapOf()), api.OK)
	path[patch.MaxPath-1] = "b"
	want := inMaps(patch.MaxPath-1, mapOf(field("a", val.OfInt(5)), field("b", val.Val{})))
	wantApply(t, "Set anew", v, []patch.Op{set(val.Val{}, path...)}, want, api.OK)
	path[0] = "b"
	wantApply(t, "from another name", v, []patch.Op{set(val.Val{}, path...)}, val.Val{}, api.ErrNone)
}

// P8.2: operations see what those ahead of them did.
func TestOneBehindTheOther(t *testing.T) {
	ops := []patch.Op{
		set(mapOf(), "new"),
		set(val.OfInt(1), "new", "x"),
		add(1, "new", "x"),
		set(mapOf(field("b", val.OfInt(40))), "new", "y"),
		add(2, "new", "y", "b"),
		drop("n"),
		set(val.OfText("again"), "n"),
		drop("in", "x"),
		drop("in", "y"),
		drop("in", ""),
	}
	want := with("new", mapOf(field("x", val.OfInt(2)), field("y", mapOf(field("b", val.OfInt(42)))))).With("n", val.OfText("again")).With("in", mapOf())
	wantApply(t, "behind each other", doc(), ops, want, api.OK)
	wantApply(t, "in another order", doc(), []patch.Op{ops[1], ops[0]}, val.Val{}, api.ErrNone)
	wantApply(t, "twice dropped", doc(), []patch.Op{drop("n"), drop("n")}, val.Val{}, api.ErrNone)
	wantApply(t, "dropped ahead", doc(), []patch.Op{drop("in"), set(val.Val{}, "in", "x")}, val.Val{}, api.ErrNone)
	wantApply(t, "Set over", doc(), []patch.Op{set(val.OfInt(1), "in"), set(val.Val{}, "in", "x")}, val.Val{}, api.ErrNone)
	wantApply(t, "above and back", mapOf(field("n", val.OfInt(math.MaxInt64))), []patch.Op{add(1, "n"), add(-1, "n")}, val.Val{}, api.ErrArg)
}

// P8.2: the first error of the operations, in order; nothing is left of those ahead.
func TestFirstError(t *testing.T) {
	none, arg := drop("a"), add(1, "t")
	wantApply(t, "ErrNone first", doc(), []patch.Op{add(1, "n"), none, arg}, val.Val{}, api.ErrNone)
	wantApply(t, "ErrArg first", doc(), []patch.Op{add(1, "n"), arg, none}, val.Val{}, api.ErrArg)
	deep := set(inLists(api.MaxDeep-1, val.Val{}), "n")
	wantApply(t, "ErrNone behind deep", doc(), []patch.Op{deep, none}, val.Val{}, api.ErrNone)
	wantApply(t, "ErrArg behind deep", doc(), []patch.Op{deep, arg}, val.Val{}, api.ErrArg)
	wantApply(t, "deep alone", doc(), []patch.Op{deep}, val.Val{}, api.ErrDeep)
}

// P8.2: MaxOps operations, and not one more, whatever these are.
func TestMaxOps(t *testing.T) {
	for n := range 2 * patch.MaxOps {
		switch {
		case n == 0:
			wantApply(t, "none", doc(), manyOps(n), doc(), api.OK)
		case n <= 50:
			wantApply(t, "up to MaxOps", doc(), manyOps(n), with("a", val.OfInt(int64(n-1))), api.OK)
		default:
			wantApply(t, "too many", doc(), manyOps(n), val.Val{}, api.ErrLong)
		}
	}
	wantApply(t, "too many wrong ones", doc(), make([]patch.Op, patch.MaxOps+1), val.Val{}, api.ErrLong)
	wantApply(t, "too many, of no map", val.OfInt(1), manyOps(patch.MaxOps+1), val.Val{}, api.ErrLong)
	wantApply(t, "far too many", doc(), make([]patch.Op, 100000), val.Val{}, api.ErrLong)
}

// P8.2: one that isn't right is ErrArg, wherever it stands, ahead of what those ahead of it would tell.
func TestApplyOfWrongOps(t *testing.T) {
	for what, o := range wrongOps() {
		for _, ops := range [][]patch.Op{
			{o},
			{add(1, "n"), o},
			{o, add(1, "n")},
			{drop("a"), o},
			{set(inLists(api.MaxDeep-1, val.Val{}), "n"), o},
			append(manyOps(patch.MaxOps-1), o),
		} {
			wantApply(t, what, doc(), ops, val.Val{}, api.ErrArg)
			wantApply(t, what+", of no map", val.OfText("a"), ops, val.Val{}, api.ErrArg)
		}
	}
}

// P8.2: MaxDeep values in each other are right, and not one more, by whichever path they came there.
func TestDeep(t *testing.T) {
	for maps := range patch.MaxPath {
		v := inMaps(maps, mapOf())
		for n := range api.MaxDeep {
			ops := []patch.Op{set(inLists(n, val.OfInt(1)), names(maps+1)...)}
			if maps+1+n+1 <= 32 {
				wantApply(t, "deep", v, ops, inMaps(maps+1, inLists(n, val.OfInt(1))), api.OK)
			} else {
				wantApply(t, "too deep", v, ops, val.Val{}, api.ErrDeep)
			}
		}
	}
}

// P8.2: only what comes of all operations may not be too deep.
func TestDeepAtLast(t *testing.T) {
	v := inMaps(patch.MaxPath-1, mapOf())
	path := names(patch.MaxPath)
	deepest := inMaps(api.MaxDeep-1, val.OfInt(1))
	for _, over := range []patch.Op{drop(path...), drop("a"), set(val.Val{}, "a"), set(val.Val{}, path...)} {
		want, e := patch.Apply(v, []patch.Op{set(val.Val{}, path...), over})
		if e != api.OK {
			t.Fatal(e)
		}
		wantApply(t, "deep between", v, []patch.Op{set(deepest, path...), over}, want, api.OK)
	}
	wantApply(t, "deep at last", v, []patch.Op{set(deepest, path...), set(val.Val{}, "b")}, val.Val{}, api.ErrDeep)
	wantApply(t, "within deep", inMaps(2, mapOf()), []patch.Op{set(deepest, "a", "a", "a"), add(1, "a", "a", "a", "x")}, val.Val{}, api.ErrNone)
}

// spoil overwrites whatever lists a value has.
func spoil(v val.Val) {
	for i := range v.List {
		spoil(v.List[i])
		v.List[i] = val.OfText("spoilt")
	}
	for i := range v.Fields {
		spoil(v.Fields[i].Val)
		v.Fields[i] = field("spoilt", val.OfText("spoilt"))
	}
}

// someOps turn some of doc, and leave some; one value stands in two of them.
func someOps() []patch.Op {
	x := listOf(val.OfInt(1), mapOf(field("b", listOf(val.OfInt(2)))))
	m := mapOf(field("b", x))
	return []patch.Op{
		set(x, "new"),
		set(x, "in", "x"),
		set(m, "one"),
		set(m, "two"),
		set(val.OfInt(9), "one", "c"),
		drop("one", "b"),
		add(1, "n"),
		drop("t"),
	}
}

// P8.2: what is handed in isn't turned, and not kept; nothing that is answered is shared.
func TestAnswersAreNew(t *testing.T) {
	for _, ops := range [][]patch.Op{nil, {add(1, "n")}, {drop("in", "x")}, someOps()} {
		v, again := doc(), doc()
		got, e := patch.Apply(v, ops)
		want, _ := patch.Apply(again, ops)
		if e != api.OK || !reflect.DeepEqual(v, doc()) {
			t.Fatalf("what was handed in was turned: %d, %v", e, v)
		}
		spoil(v)
		for _, o := range ops {
			spoil(o.Val)
			for i := range o.Path {
				o.Path[i] = "spoilt"
			}
		}
		if !reflect.DeepEqual(got, want) || !got.Same(want) {
			t.Errorf("kept: %v", got)
		}
		spoil(got)
		if !reflect.DeepEqual(again, doc()) {
			t.Errorf("shared: %v", again)
		}
	}
	ops := someOps()
	v, e := patch.Apply(doc(), ops)
	if e != api.OK || !reflect.DeepEqual(ops, someOps()) {
		t.Errorf("operations were turned: %d, %v", e, ops)
	}
	spoil(v)
	if !reflect.DeepEqual(ops, someOps()) {
		t.Errorf("operations are shared: %v", ops)
	}
}

// P8.2: the parts of an answer are apart, also where one value came to two places.
func TestPartsOfAnswersAreApart(t *testing.T) {
	x := in()
	v, e := patch.Apply(mapOf(field("c", x), field("d", x)), []patch.Op{set(x, "a"), set(x, "b")})
	if e != api.OK || len(v.Fields) != 4 {
		t.Fatal(e, v)
	}
	for i := range v.Fields {
		if !v.Fields[i].Val.Same(in()) {
			t.Errorf("%d shares: %v", i, v.Fields[i].Val)
		}
		spoil(v.Fields[i].Val)
	}
}

// P8.2: room that lies behind lists that are handed in stays as it is.
func TestRoomBehindStays(t *testing.T) {
	fields := []val.Field{field("a", val.OfInt(1)), field("b", val.OfInt(2)), field("c", val.OfInt(3))}
	for _, ops := range [][]patch.Op{{set(val.OfInt(9), "b")}, {set(val.OfInt(9), "0")}, {drop("a")}, {add(1, "a")}} {
		if _, e := patch.Apply(mapOf(fields[:1]...), ops); e != api.OK {
			t.Error(e)
		}
		for i, f := range fields {
			if f.Name != "abc"[i:i+1] || f.Val.Num != int64(i+1) {
				t.Errorf("%d: %v", i, f)
			}
		}
	}
}

// Every call ends, and answers some error or what is right, also of values that aren't right.
func TestOfWrongValues(t *testing.T) {
	wrong := []val.Val{
		{Kind: -1},
		{Kind: 9, Fields: []val.Field{{}}},
		{Kind: val.Text, Num: 1, Fields: []val.Field{field("a", val.Val{})}},
		{Kind: val.Map, Num: 1, Fields: []val.Field{field("a", val.OfInt(1))}},
		mapOf(field("c", val.OfInt(1)), field("b", val.OfInt(2)), field("a", val.OfInt(3))),
		mapOf(field("a", val.OfInt(1)), field("a", val.OfInt(2))),
		mapOf(field("a", val.Val{Kind: val.Int, Num: 1, Text: "a"})),
		inMaps(api.MaxDeep, val.Val{}),
		inMaps(1<<16-1, val.Val{}),
		inLists(1<<16-1, val.Val{}),
		endless(),
	}
	for i, v := range wrong {
		if got, e := patch.Apply(v, nil); e != api.ErrDeep || !reflect.DeepEqual(got, val.Val{}) {
			t.Errorf("%d: %v, %d", i, got, e)
		}
		for _, o := range append(rightOps(), someOps()...) {
			if got, e := patch.Apply(v, []patch.Op{o}); e != api.OK && !reflect.DeepEqual(got, val.Val{}) || !got.Right() {
				t.Errorf("%d: %v, %d", i, got, e)
			}
		}
	}
	wantApply(t, "what is wrong is dropped", endless(), []patch.Op{drop("a")}, mapOf(field("n", val.OfInt(1))), api.OK)
	wantApply(t, "Set of what is in itself", doc(), []patch.Op{set(endless(), "a")}, val.Val{}, api.ErrArg)
}
