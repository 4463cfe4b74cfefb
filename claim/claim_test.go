package claim_test

import (
	"fmt"
	"math"
	"math/rand"
	"slices"
	"strings"
	"testing"

	"mailbag/claim"
)

// wantKeys holds an answer to be such keys, nil and empty being one.
func wantKeys(t *testing.T, what string, got []string, keys ...string) {
	t.Helper()
	if !slices.Equal(got, keys) {
		t.Errorf("%s: %q, not %q", what, got, keys)
	}
}

// wantTake holds a Take to tell whether one is there now.
func wantTake(t *testing.T, c *claim.Claims, who int, key string, want bool) {
	t.Helper()
	if got := c.Take(who, key); got != want {
		t.Errorf("Take(%d, %q): %t", who, key, got)
	}
}

// wantBusy holds keys to be busy for one, or not.
func wantBusy(t *testing.T, c *claim.Claims, who int, want bool, keys ...string) {
	t.Helper()
	for _, key := range keys {
		if got := c.Busy(who)(key); got != want {
			t.Errorf("Busy(%d)(%q): %t", who, key, got)
		}
	}
}

// wantNobody holds nobody to be anywhere.
func wantNobody(t *testing.T, c *claim.Claims) {
	t.Helper()
	for _, who := range []int{math.MinInt, -1, 0, 1, 2, math.MaxInt} {
		wantKeys(t, "Of", c.Of(who))
		wantBusy(t, c, who, false, "", "a", "b", "\x00")
	}
	if c.Len() != 0 {
		t.Error("Len:", c.Len())
	}
}

// The chapter's example.
func TestExample(t *testing.T) {
	c := claim.New()
	wantTake(t, c, 1, "a", true)
	wantBusy(t, c, 2, true, "a")
	wantBusy(t, c, 1, false, "a")
}

// P16.1
func TestNew(t *testing.T) {
	wantNobody(t, claim.New())
	wantNobody(t, &claim.Claims{})
	a, b := claim.New(), claim.New()
	wantTake(t, a, 1, "a", true)
	wantNobody(t, b)
	wantTake(t, b, 2, "a", true)
	wantKeys(t, "Of", a.Of(1), "a")
	var zero claim.Claims
	wantTake(t, &zero, 1, "a", true)
	wantKeys(t, "Of", zero.Of(1), "a")
}

// P16.1
func TestTake(t *testing.T) {
	c := claim.New()
	wantTake(t, c, 1, "a", true)
	wantTake(t, c, 1, "a", true)
	wantTake(t, c, 2, "a", false)
	wantTake(t, c, 0, "a", false)
	wantTake(t, c, -1, "a", false)
	wantTake(t, c, 2, "b", true)
	wantTake(t, c, 1, "b", false)
	wantTake(t, c, 0, "", true) // 0 is somebody, and no text a key
	wantTake(t, c, 1, "", false)
	wantTake(t, c, 1, "a\x00", true)
	wantTake(t, c, 2, "A", true)
	wantTake(t, c, math.MinInt, "min", true)
	wantTake(t, c, math.MaxInt, "min", false)
	wantTake(t, c, math.MaxInt, strings.Repeat("x", 1<<16), true)
	wantTake(t, c, 1, strings.Repeat("x", 1<<16-1), true)
	wantKeys(t, "Of 0", c.Of(0), "")
	wantKeys(t, "Of 2", c.Of(2), "A", "b")
	wantKeys(t, "Of -1", c.Of(-1))
	if c.Len() != 8 {
		t.Error(c.Len())
	}
}

// P16.1: a function of Busy says what there is when it is asked, not when it was made.
func TestBusyLater(t *testing.T) {
	c := claim.New()
	one, two := c.Busy(1), c.Busy(2)
	hold := func(key string, isOne, isTwo bool) {
		t.Helper()
		if one(key) != isOne || two(key) != isTwo {
			t.Errorf("%q: %t, %t", key, one(key), two(key))
		}
	}
	hold("a", false, false)
	c.Take(1, "a")
	hold("a", false, true)
	hold("b", false, false)
	c.Take(3, "b")
	hold("b", true, true)
	c.Free(1)
	hold("a", false, false)
	c.Take(2, "a")
	hold("a", true, false)
	c.Free(3)
	hold("b", false, false)
	if c.Len() != 1 {
		t.Error("asking isn't taking:", c.Len())
	}
}

// P16.1
func TestFree(t *testing.T) {
	c := claim.New()
	for _, key := range []string{"b", "\xff", "a", "", "a\x00", "B", "ab"} {
		wantTake(t, c, 1, key, true)
	}
	wantTake(t, c, 2, "c", true)
	wantKeys(t, "Free of nobody", c.Free(3))
	wantKeys(t, "Of", c.Of(1), "", "B", "a", "a\x00", "ab", "b", "\xff")
	wantKeys(t, "Free", c.Free(1), "", "B", "a", "a\x00", "ab", "b", "\xff")
	wantKeys(t, "Of, behind that", c.Of(1))
	wantKeys(t, "Free again", c.Free(1))
	wantKeys(t, "Of another one", c.Of(2), "c")
	wantTake(t, c, 2, "a", true)
	wantTake(t, c, 1, "a", false)
	wantTake(t, c, 1, "b", true)
	if c.Len() != 3 {
		t.Error(c.Len())
	}
	wantKeys(t, "Free of 2", c.Free(2), "a", "c")
	wantKeys(t, "Free of 1", c.Free(1), "b")
	wantNobody(t, c)
}

// P16.1: at nil Claims nobody is, and nobody comes.
func TestNil(t *testing.T) {
	var c *claim.Claims
	wantTake(t, c, 1, "a", false)
	wantTake(t, c, 0, "", false)
	wantKeys(t, "Free", c.Free(1))
	wantNobody(t, c)
}

// Rule 4: answers are apart from what is kept, and from each other.
func TestApart(t *testing.T) {
	c := claim.New()
	c.Take(1, "a")
	c.Take(1, "b")
	c.Of(1)[0] = "turned"
	wantKeys(t, "Of", c.Of(1), "a", "b")
	freed, of := c.Free(1), c.Of(1)
	c.Take(1, "c")
	wantKeys(t, "freed", freed, "a", "b")
	wantKeys(t, "of", of)
}

// spot is who is at a key, as the model keeps it.
type spot struct {
	who int
	key string
}

// keysOf is the keys at which one is in a list, in order.
func keysOf(list []spot, who int) []string {
	var keys []string
	for _, s := range list {
		if s.who == who {
			keys = append(keys, s.key)
		}
	}
	slices.Sort(keys)
	return keys
}

// other tells whether another one is at a key.
func other(list []spot, who int, key string) bool {
	return slices.ContainsFunc(list, func(s spot) bool { return s.key == key && s.who != who })
}

// P16.1: whoever comes and goes, all calls tell what a list of who is where does.
func TestModel(t *testing.T) {
	for seed := range int64(50) {
		r := rand.New(rand.NewSource(seed))
		c, list := claim.New(), []spot(nil)
		busy := []func(string) bool{c.Busy(0), c.Busy(1), c.Busy(2), c.Busy(3)}
		for range 1000 {
			who, key := r.Intn(4), fmt.Sprint(r.Intn(12))
			is := other(list, who, key)
			switch r.Intn(8) {
			case 0:
				wantKeys(t, "Free", c.Free(who), keysOf(list, who)...)
				list = slices.DeleteFunc(list, func(s spot) bool { return s.who == who })
			case 1:
				wantKeys(t, "Of", c.Of(who), keysOf(list, who)...)
			case 2:
				if busy[who](key) != is || c.Busy(who)(key) != is {
					t.Error("Busy", who, key)
				}
			default:
				wantTake(t, c, who, key, !is)
				if !is && !slices.Contains(list, spot{who, key}) {
					list = append(list, spot{who, key})
				}
			}
			if c.Len() != len(list) {
				t.Fatal("Len", c.Len(), len(list))
			}
		}
	}
}
