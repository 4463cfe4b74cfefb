package store

import (
	"testing"

	"mailbag/api"
)

// P9.4: behind a Vacuum nothing is kept of what was let go: no key, and none of the commits' writes.
func TestNothingIsKept(t *testing.T) {
	s, _ := New(0, []api.Write{{Key: "a", Val: "0"}, {Key: "b", Val: "0"}})
	for _, list := range [][]api.Write{{{Key: "a", Gone: true}, {Key: "c", Val: "1"}}, {{Key: "b", Gone: true}}, {{Key: "c", Gone: true}, {Key: "z", Gone: true}}} {
		if e := s.Commit(api.Commit{Seq: s.Last() + 1, Writes: list}); e != api.OK {
			t.Fatal(e)
		}
	}
	commits := s.commits
	for seq, keys := range []int{4, 3, 2, 0} {
		if e := s.Vacuum(seq); e != api.OK || s.keys.Len() != keys || len(s.commits) != 3-seq {
			t.Errorf("Vacuum of %d: %d, %d keys, %d commits", seq, e, s.keys.Len(), len(s.commits))
		}
		for i, c := range commits {
			if (len(c.Writes) > 0) != (i >= seq) {
				t.Errorf("Vacuum of %d: %v of commit %d", seq, c.Writes, i+1)
			}
		}
	}
}
