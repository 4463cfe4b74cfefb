package tree

import (
	"fmt"
	"math/rand"
	"testing"
)

// wantShape holds a tree's leaves to what the search and the times hang on: none is empty or has too many keys, and no two side by side have so few that they should be one.
func wantShape(t *testing.T, what string, x *Tree[int]) {
	t.Helper()
	size, ahead := 0, ""
	for i, leaf := range x.leaves {
		if len(leaf) == 0 || len(leaf) > maxLeaf {
			t.Fatalf("%s: leaf %d of %d has %d keys", what, i, len(x.leaves), len(leaf))
		}
		if i > 0 && len(x.leaves[i-1])+len(leaf) <= joinLeaf {
			t.Fatalf("%s: leaves %d and %d of %d have %d and %d keys", what, i-1, i, len(x.leaves), len(x.leaves[i-1]), len(leaf))
		}
		for _, e := range leaf {
			if size > 0 && e.key <= ahead {
				t.Fatalf("%s: %q behind %q", what, e.key, ahead)
			}
			ahead = e.key
			size++
		}
	}
	if size != x.size {
		t.Fatalf("%s: %d keys, but a size of %d", what, size, x.size)
	}
}

// P6.1: however keys come and go, the leaves have few keys, and there are few leaves.
func TestLeaves(t *testing.T) {
	for seed := range int64(30) {
		r := rand.New(rand.NewSource(seed))
		x := &Tree[int]{}
		for _, puts := range []int{10, 0, 9, 1, 5, 0} {
			for step := range 1500 {
				key := fmt.Sprintf("%04d", r.Intn(1500))
				if r.Intn(10) < puts {
					x.Put(key, step)
				} else {
					x.Drop(key)
				}
				wantShape(t, fmt.Sprint("seed ", seed), x)
			}
		}
	}
}

// P6.1: keys that go one by one, from either end, or all but a few.
func TestLeavesThatBecomeFew(t *testing.T) {
	for _, gone := range []func(i int) int{
		func(i int) int { return i },
		func(i int) int { return 999 - i },
		func(i int) int { return i * 7 % 1000 },
		func(i int) int { return i * 501 % 1000 },
	} {
		x := &Tree[int]{}
		for i := range 1000 {
			x.Put(fmt.Sprintf("%04d", i), i)
			wantShape(t, "Put", x)
		}
		for i := range 1000 {
			x.Drop(fmt.Sprintf("%04d", gone(i)))
			wantShape(t, "Drop", x)
		}
		if x.size == 0 && len(x.leaves) != 0 {
			t.Error(len(x.leaves), "leaves of none")
		}
	}
}
