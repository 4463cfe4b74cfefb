package tree_test

import (
	"fmt"
	"iter"
	"maps"
	"math/rand"
	"runtime"
	"slices"
	"strings"
	"testing"
	"weak"

	"mailbag/tree"
)

// pair is a key with what belongs to it.
type pair[V any] struct {
	key string
	val V
}

// pairs is what a sequence tells.
func pairs[V any](seq iter.Seq2[string, V]) []pair[V] {
	var list []pair[V]
	for key, val := range seq {
		list = append(list, pair[V]{key, val})
	}
	return list
}

// keys is the keys that a sequence tells, with commas between.
func keys[V any](seq iter.Seq2[string, V]) string {
	var list []string
	for key := range seq {
		list = append(list, key)
	}
	return strings.Join(list, ",")
}

// within is the chapter's Range over a map: the keys from from on, and below to, in order.
func within(m map[string]int, from, to string) []pair[int] {
	var list []pair[int]
	for _, key := range slices.Sorted(maps.Keys(m)) {
		if key >= from && (to == "" || key < to) {
			list = append(list, pair[int]{key, m[key]})
		}
	}
	return list
}

// unlike tells what a tree and a map tell apart; nothing: "".
func unlike(x *tree.Tree[int], m map[string]int) string {
	if x.Len() != len(m) {
		return fmt.Sprint("Len ", x.Len(), ", not ", len(m))
	}
	if got := pairs(x.From("")); !slices.Equal(got, within(m, "", "")) {
		return fmt.Sprint("From no text on: ", got, ", not ", within(m, "", ""))
	}
	for key, want := range m {
		if val, is := x.Get(key); val != want || !is {
			return fmt.Sprintf("Get of %q: %d, %t, not %d", key, val, is, want)
		}
	}
	return ""
}

// wantLike holds a tree to a map.
func wantLike(t *testing.T, what string, x *tree.Tree[int], m map[string]int) {
	t.Helper()
	if s := unlike(x, m); s != "" {
		t.Fatalf("%s: %s", what, s)
	}
}

// wantBool holds an answer to what is asked for.
func wantBool(t *testing.T, what string, got, want bool) {
	t.Helper()
	if got != want {
		t.Errorf("%s: %t", what, got)
	}
}

// named is the key of a number; the keys have the numbers' order.
func named(i int) string { return fmt.Sprintf("%06d", i) }

// filled is a tree of the keys of 0 to n - 1, and a map like it.
func filled(n int) (*tree.Tree[int], map[string]int) {
	x, m := &tree.Tree[int]{}, map[string]int{}
	for i := range n {
		x.Put(named(i), i)
		m[named(i)] = i
	}
	return x, m
}

// P6.1
func TestZero(t *testing.T) {
	var x tree.Tree[int]
	if x.Len() != 0 || len(pairs(x.From(""))) != 0 || len(pairs(x.Range("", ""))) != 0 || len(pairs(x.Range("a", "b"))) != 0 {
		t.Error("there are keys")
	}
	for _, key := range []string{"", "a"} {
		val, is := x.Get(key)
		if val != 0 {
			t.Error(val)
		}
		wantBool(t, "Get", is, false)
		wantBool(t, "Drop", x.Drop(key), false)
	}
	if c := x.Clone(); c == nil || c.Len() != 0 || c.Put("a", 1) || x.Len() != 0 {
		t.Error("Clone")
	}
	wantBool(t, "Put", x.Put("", 5), false)
	wantLike(t, "one key", &x, map[string]int{"": 5})
}

// P6.1
func TestPutGetDrop(t *testing.T) {
	x := &tree.Tree[int]{}
	wantBool(t, "Put of a new key", x.Put("a", 1), false)
	wantBool(t, "Put of a key", x.Put("a", 2), true)
	wantBool(t, "Put of a key, the same", x.Put("a", 2), true)
	wantLike(t, "a", x, map[string]int{"a": 2})
	wantBool(t, "Put of no bytes", x.Put("", 3), false)
	wantBool(t, "Put of 0", x.Put("z", 0), false)
	if val, is := x.Get("z"); val != 0 || !is {
		t.Error("Get of a key to which 0 belongs:", val, is)
	}
	for _, key := range []string{"b", "aa", "a\x00", "\x00", "A"} {
		val, is := x.Get(key)
		if val != 0 || is {
			t.Errorf("Get of %q: %d, %t", key, val, is)
		}
		wantBool(t, "Drop of a key that isn't there", x.Drop(key), false)
	}
	wantLike(t, "three", x, map[string]int{"": 3, "a": 2, "z": 0})
	wantBool(t, "Drop", x.Drop("a"), true)
	wantBool(t, "Drop, again", x.Drop("a"), false)
	wantLike(t, "two", x, map[string]int{"": 3, "z": 0})
	wantBool(t, "Put of a key that was dropped", x.Put("a", 7), false)
	wantBool(t, "Drop of no bytes", x.Drop(""), true)
	wantBool(t, "Drop of z", x.Drop("z"), true)
	wantBool(t, "Drop of a", x.Drop("a"), true)
	wantLike(t, "none", x, nil)
	wantBool(t, "Put behind all", x.Put("q", 1), false)
	wantLike(t, "one", x, map[string]int{"q": 1})
}

// The chapter's example.
func TestExample(t *testing.T) {
	x := &tree.Tree[int]{}
	for i, key := range []string{"b", "a", "c"} {
		x.Put(key, i)
	}
	x.Drop("b")
	if got := pairs(x.From("a")); !slices.Equal(got, []pair[int]{{"a", 1}, {"c", 2}}) {
		t.Error(got)
	}
}

// P6.2: keys have the order of their bytes, whatever these are.
func TestOrderOfBytes(t *testing.T) {
	inOrder := []string{"", "\x00", "\x00\x00", "\x00\xff", "\x01", "A", "B", "a", "a\x00", "aa", "ab", "b", "\x7f", "\x80", "é", "世", "\xfe\xff", "\xff", "\xff\x00", "\xff\xff", strings.Repeat("\xff", 400)}
	for seed := range int64(20) {
		x := &tree.Tree[int]{}
		for _, i := range rand.New(rand.NewSource(seed)).Perm(len(inOrder)) {
			x.Put(inOrder[i], i)
		}
		for i, from := range inOrder {
			if got := keys(x.From(from)); got != strings.Join(inOrder[i:], ",") {
				t.Fatalf("From %q: %q", from, got)
			}
			for j, to := range inOrder {
				want := strings.Join(inOrder[i:max(i, j)], ",")
				if to == "" {
					want = strings.Join(inOrder[i:], ",")
				}
				if got := keys(x.Range(from, to)); got != want {
					t.Fatalf("Range from %q to %q: %q, not %q", from, to, got, want)
				}
			}
		}
	}
}

// P6.2: at keys that are there and between such, at each place of a tree of many.
func TestFromAndRangeOfMany(t *testing.T) {
	x, m := &tree.Tree[int]{}, map[string]int{}
	for i := range 300 {
		x.Put(named(2*i+1), i)
		m[named(2*i+1)] = i
	}
	for i := range 602 {
		from := named(i)
		if got := pairs(x.From(from)); !slices.Equal(got, within(m, from, "")) {
			t.Fatalf("From %s: %v", from, got)
		}
		for _, more := range []int{-500, -2, -1, 0, 1, 2, 3, 30, 64, 65, 130, 700} {
			to := named(max(i+more, 0))
			if got := pairs(x.Range(from, to)); !slices.Equal(got, within(m, from, to)) {
				t.Fatalf("Range from %s to %s: %v", from, to, got)
			}
		}
	}
	for _, c := range [][2]string{{"", ""}, {"", named(0)}, {"", named(1)}, {"", named(2)}, {named(599), ""}, {named(600), ""}, {"z", ""}, {"z", "a"}, {"", "z"}} {
		if got := pairs(x.Range(c[0], c[1])); !slices.Equal(got, within(m, c[0], c[1])) {
			t.Errorf("Range from %q to %q: %v", c[0], c[1], got)
		}
	}
}

// orders are the numbers from 0 to n - 1 in orders of all sorts.
func orders(n int) [][]int {
	rising := make([]int, n)
	for i := range rising {
		rising[i] = i
	}
	falling := slices.Clone(rising)
	slices.Reverse(falling)
	outward := make([]int, n) // from the middle to both ends
	for i := range outward {
		outward[i] = n/2 + (i+1)/2*(1-i%2*2)
	}
	outward = slices.DeleteFunc(outward, func(i int) bool { return i < 0 || i >= n })
	for i := range n {
		if !slices.Contains(outward, i) {
			outward = append(outward, i)
		}
	}
	inward := slices.Clone(outward)
	slices.Reverse(inward)
	var striped []int
	for first := range 7 {
		for i := first; i < n; i += 7 {
			striped = append(striped, i)
		}
	}
	return [][]int{rising, falling, outward, inward, striped, rand.New(rand.NewSource(1)).Perm(n), rand.New(rand.NewSource(2)).Perm(n)}
}

// P6.1, P6.2: keys that come and go in orders of all sorts.
func TestOrders(t *testing.T) {
	const n = 400
	for i, in := range orders(n) {
		for j, out := range orders(n) {
			x, m := &tree.Tree[int]{}, map[string]int{}
			what := fmt.Sprint("orders ", i, " and ", j)
			for k, p := range in {
				wantBool(t, what+", Put", x.Put(named(p), k), false)
				m[named(p)] = k
				if k%67 == 0 {
					wantLike(t, what, x, m)
				}
			}
			wantLike(t, what, x, m)
			for k, p := range out {
				wantBool(t, what+", Drop", x.Drop(named(p)), true)
				delete(m, named(p))
				if k%67 == 0 || len(m) < 5 {
					wantLike(t, what, x, m)
				}
			}
		}
	}
}

// P6.1, P6.2: whatever is done, trees and their Clones tell what maps tell, and so do those that were left behind.
func TestAgainstMap(t *testing.T) {
	for seed := range int64(60) {
		r := rand.New(rand.NewSource(seed))
		names := []int{3, 40, 300, 2000}[seed%4]
		trees, models := []*tree.Tree[int]{{}}, []map[string]int{{}}
		puts := 7
		for step := range 3000 {
			if step%500 == 0 {
				puts = []int{7, 2, 5}[r.Intn(3)] // of ten: more keys come than go, or the other way round
			}
			i := r.Intn(len(trees))
			x, m := trees[i], models[i]
			key := named(r.Intn(names))
			_, was := m[key]
			switch {
			case r.Intn(600) == 0 && len(trees) < 5:
				trees, models = append(trees, x.Clone()), append(models, maps.Clone(m))
			case r.Intn(10) < puts:
				m[key] = step
				wantBool(t, "Put", x.Put(key, step), was)
			default:
				delete(m, key)
				wantBool(t, "Drop", x.Drop(key), was)
			}
			if val, is := x.Get(key); val != m[key] || x.Len() != len(m) {
				t.Fatalf("seed %d, step %d: Get %d, %t, Len %d", seed, step, val, is, x.Len())
			}
			if step%100 == 0 {
				from, to := named(r.Intn(names)), named(r.Intn(names))
				if got := pairs(x.Range(from, to)); !slices.Equal(got, within(m, from, to)) {
					t.Fatalf("seed %d, step %d: Range from %s to %s: %v", seed, step, from, to, got)
				}
			}
		}
		for i := range trees {
			wantLike(t, fmt.Sprint("seed ", seed, ", tree ", i), trees[i], models[i])
		}
	}
}

// P6.1: what is done to a tree or to its Clone behind it isn't done to the other one.
func TestCloneIsApart(t *testing.T) {
	for _, n := range []int{0, 1, 5, 64, 65, 1000} {
		for _, turned := range []int{0, 1} {
			x, m := filled(n)
			two := []*tree.Tree[int]{x, x.Clone()}
			wantLike(t, "a Clone", two[1], m)
			a, other := two[turned], two[1-turned]
			for i := range n {
				a.Put(named(i), -1)
				a.Put(named(i)+"x", i)
			}
			wantLike(t, "behind Puts to the other one", other, m)
			for i := range n {
				wantBool(t, "Drop", a.Drop(named(i)), true)
			}
			wantLike(t, "behind Drops from the other one", other, m)
			if a.Len() != n {
				t.Error(a.Len())
			}
			other.Put("other", 1)
			if _, is := a.Get("other"); is {
				t.Error("Put to the one came to the other one")
			}
		}
	}
}

// P6.1: a Clone of a Clone, and what belongs to the keys is the same.
func TestCloneOfAClone(t *testing.T) {
	x := &tree.Tree[*int]{}
	n := 1
	x.Put("a", &n)
	c := x.Clone().Clone()
	x.Drop("a")
	if p, is := c.Get("a"); !is || p != &n {
		t.Error(p, is)
	}
	if p, is := x.Get("a"); is || p != nil {
		t.Error(p, is)
	}
}

// P6.2, rule 5: a sequence is left early, at each of its places; and nothing is told behind that.
func TestLeftEarly(t *testing.T) {
	x, m := filled(200)
	all := within(m, "", "")
	for stop := range all {
		for _, seq := range []iter.Seq2[string, int]{x.From(""), x.Range("", ""), x.Range("", "z")} {
			var got []pair[int]
			seq(func(key string, val int) bool {
				got = append(got, pair[int]{key, val})
				return len(got) <= stop
			})
			if !slices.Equal(got, all[:stop+1]) {
				t.Fatalf("left behind %d: %v", stop+1, got)
			}
		}
	}
}

// P6.2, rule 5: a sequence is gone through again, within itself too, and pulled from.
func TestAgain(t *testing.T) {
	x, m := filled(150)
	all := within(m, "", "")
	from := x.From(named(70))
	for key := range from {
		if key == named(75) {
			break
		}
	}
	for range 3 {
		if got := pairs(from); !slices.Equal(got, all[70:]) {
			t.Fatal(got)
		}
	}
	ten := x.Range(named(60), named(70))
	n := 0
	for range ten {
		for key, val := range ten {
			if key != named(60+n%10) || val != 60+n%10 {
				t.Fatal(n, key, val)
			}
			n++
		}
	}
	if n != 100 {
		t.Error(n)
	}
	next, stop := iter.Pull2(ten)
	for i := range 5 {
		if key, val, is := next(); !is || key != named(60+i) || val != 60+i {
			t.Error(key, val, is)
		}
	}
	stop()
}

// P6.2: a tree that was turned since a sequence was told of, and isn't while that is gone through, is told as it is then.
func TestTurnedAheadOfGoingThrough(t *testing.T) {
	x := &tree.Tree[int]{}
	from, rng := x.From("b"), x.Range("b", "d")
	if got := keys(from) + keys(rng); got != "" {
		t.Error(got)
	}
	for i, key := range []string{"a", "b", "c", "d"} {
		x.Put(key, i)
	}
	if got := keys(from) + " " + keys(rng); got != "b,c,d b,c" {
		t.Error(got)
	}
	x.Drop("b")
	if got := keys(from) + " " + keys(rng); got != "c,d c" {
		t.Error(got)
	}
}

// Rule 1: what is told of a tree that is turned meanwhile isn't promised; that it ends, without a panic, is.
func TestTurnedMeanwhileEnds(t *testing.T) {
	for _, n := range []int{1, 64, 65, 500} {
		x, _ := filled(n)
		steps := 0
		for key := range x.From("") {
			x.Drop(key)
			steps++
		}
		for key := range x.Range("", "z") {
			x.Put(key+"x", 1)
			x.Put("a"+key, 1)
			steps++
		}
		if steps > 10*n {
			t.Error(n, steps)
		}
	}
}

// P6.2, at its end: a nil Tree.
func TestNil(t *testing.T) {
	var x *tree.Tree[string]
	wantBool(t, "Put", x.Put("a", "b"), false)
	wantBool(t, "Drop", x.Drop("a"), false)
	for _, key := range []string{"", "a"} {
		if val, is := x.Get(key); val != "" || is {
			t.Error(val, is)
		}
	}
	if x.Len() != 0 || x.Clone() != nil {
		t.Error(x.Len(), x.Clone())
	}
	for _, seq := range []iter.Seq2[string, string]{x.From(""), x.From("a"), x.Range("", ""), x.Range("a", "b")} {
		for key := range seq {
			t.Error(key)
		}
	}
}

// P6.1: values of all sorts.
func TestValues(t *testing.T) {
	type thing struct {
		list []int
		more map[string]int
	}
	x := &tree.Tree[thing]{}
	x.Put("a", thing{list: []int{1, 2}})
	x.Put("b", thing{more: map[string]int{"c": 3}})
	if a, is := x.Get("a"); !is || !slices.Equal(a.list, []int{1, 2}) {
		t.Error(a, is)
	}
	if none, is := x.Get("c"); is || none.list != nil || none.more != nil {
		t.Error(none, is)
	}
	y := &tree.Tree[struct{}]{}
	y.Put("a", struct{}{})
	if _, is := y.Get("a"); !is || y.Len() != 1 {
		t.Error(is, y.Len())
	}
	z := &tree.Tree[any]{}
	z.Put("a", nil)
	if v, is := z.Get("a"); v != nil || !is {
		t.Error(v, is)
	}
}

// What is dropped, or was put over, isn't kept (LANGUAGE.md, 8).
func TestNothingIsKept(t *testing.T) {
	type block [100]int
	x := &tree.Tree[*block]{}
	var gone []weak.Pointer[block]
	put := func(i int) {
		b := &block{i}
		x.Put(named(i), b)
		gone = append(gone, weak.Make(b))
	}
	for i := range 500 {
		put(i)
	}
	for i := range 500 {
		if i%10 == 5 {
			x.Put(named(i), nil)
		} else if i%10 != 0 {
			x.Drop(named(i))
		}
	}
	for i := 0; i < 100; i += 10 {
		x.Drop(named(i))
	}
	runtime.GC()
	for i, p := range gone {
		if kept := i >= 100 && i%10 == 0; (p.Value() != nil) != kept {
			t.Errorf("%d: kept %t", i, !kept)
		}
	}
	if x.Len() != 90 {
		t.Error(x.Len())
	}
}

// P6.1: many keys.
func TestMany(t *testing.T) {
	const n = 1 << 18
	x := &tree.Tree[int]{}
	for i := range n {
		x.Put(named(i*7919%n), i)
	}
	if x.Len() != n || x.Clone().Len() != n {
		t.Fatal(x.Len())
	}
	i := 0
	for key := range x.From("") {
		if key != named(i) {
			t.Fatal(key, i)
		}
		i++
	}
	for i := range n {
		if i%64 != 0 && !x.Drop(named(i)) {
			t.Fatal(i)
		}
	}
	if got := len(pairs(x.From(""))); got != n/64 || x.Len() != n/64 {
		t.Error(got, x.Len())
	}
}
