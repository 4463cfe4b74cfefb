package txn

import (
	"fmt"
	"strings"
	"testing"

	"mailbag/api"
	"mailbag/tree"
)

// letters is a tree of a few writes.
func letters() *tree.Tree[api.Write] {
	var x tree.Tree[api.Write]
	for _, key := range strings.Fields("a b ba c e") {
		x.Put(key, api.Write{Key: key, Val: "v" + key})
	}
	return &x
}

// P10.2: writes come one by one, in order, within their bounds, and then nothing does.
func TestPull(t *testing.T) {
	for bounds, keys := range map[[2]string]string{
		{"", ""}:    "a b ba c e",
		{"b", ""}:   "b ba c e",
		{"", "c"}:   "a b ba",
		{"aa", "d"}: "b ba c",
		{"d", "e"}:  "",
		{"c", "b"}:  "",
		{"f", ""}:   "",
	} {
		p := pullFrom(letters(), bounds[0], bounds[1])
		for _, key := range strings.Fields(keys) {
			if w := p.head; !p.is || w.Key != key || p.next() != w || w.Val != "v"+key {
				t.Errorf("%q: %v, not %s", bounds, w, key)
			}
		}
		for range 3 {
			if p.is || p.next() != (api.Write{}) {
				t.Errorf("%q: %v behind all", bounds, p.head)
			}
		}
	}
}

// P10.2: behind stop nothing comes, wherever that was, and nothing is kept of what was pulled from.
func TestStop(t *testing.T) {
	for n := range 8 {
		p := pullFrom(letters(), "", "")
		for range n {
			p.next()
		}
		p.stop()
		if p.is || p.next() != (api.Write{}) || *p != (pull{}) {
			t.Error(fmt.Sprint(n, " pulled: ", p.head))
		}
		p.stop()
	}
}
