package store

import (
	"slices"
	"strings"

	"mailbag/api"
)

// Right tells whether writes may be a commit's.
func Right(list []api.Write) bool {
	return len(list) <= api.MaxWrites && areRight(list)
}

// Sorted is writes in order of their keys; of one key the last one.
func Sorted(list []api.Write) []api.Write {
	last := map[string]api.Write{}
	for _, w := range list {
		last[w.Key] = w
	}
	sorted := make([]api.Write, 0, len(last))
	for _, w := range last {
		sorted = append(sorted, w)
	}
	slices.SortFunc(sorted, func(a, b api.Write) int { return strings.Compare(a.Key, b.Key) })
	return sorted
}

// areRight tells whether the keys rise, and each write is within its bounds.
func areRight(list []api.Write) bool {
	for i, w := range list {
		if !isRight(w) || i > 0 && w.Key <= list[i-1].Key {
			return false
		}
	}
	return true
}

// isRight tells whether a write's key and value are within their bounds, and it has no value, if it is gone.
func isRight(w api.Write) bool {
	return w.Key != "" && len(w.Key) <= api.MaxKey && len(w.Val) <= api.MaxVal && !(w.Gone && w.Val != "")
}

// isGone tells whether a write lets its key go.
func isGone(w api.Write) bool { return w.Gone }

// keysOf is the keys that commits wrote, each once.
func keysOf(list []api.Commit) map[string]struct{} {
	keys := map[string]struct{}{}
	for _, c := range list {
		for _, w := range c.Writes {
			keys[w.Key] = struct{}{}
		}
	}
	return keys
}

// clone is a commit that shares no list with the one it is of.
func clone(c api.Commit) api.Commit {
	c.Writes = slices.Clone(c.Writes)
	return c
}
