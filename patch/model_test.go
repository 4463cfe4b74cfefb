package patch_test

import (
	"math/big"
	"math/rand"
	"reflect"
	"testing"

	"mailbag/api"
	"mailbag/patch"
	"mailbag/val"
)

// model is a document in another shape: a map is a Go map, all else is a value.
type model any

// modelOf is a value as a model.
func modelOf(v val.Val) model {
	if v.Kind != val.Map {
		return v
	}
	m := map[string]model{}
	for _, f := range v.Fields {
		m[f.Name] = modelOf(f.Val)
	}
	return m
}

// valueOf is a model as a value.
func valueOf(m model) val.Val {
	switch x := m.(type) {
	case val.Val:
		return x
	case map[string]model:
		v := val.OfMap()
		for name, part := range x {
			v = v.With(name, valueOf(part))
		}
		return v
	}
	return val.Val{Kind: -1}
}

// turn does an operation to a model, in the chapter's words.
func turn(m model, o patch.Op) api.Errno {
	for i, name := range o.Path {
		fields, is := m.(map[string]model)
		if !is {
			return api.ErrNone
		}
		part, there := fields[name]
		if i+1 < len(o.Path) {
			if !there {
				return api.ErrNone
			}
			m = part
			continue
		}
		switch {
		case o.Kind == patch.Set:
			fields[name] = modelOf(o.Val)
		case !there:
			return api.ErrNone
		case o.Kind == patch.Drop:
			delete(fields, name)
		default:
			n, is := part.(val.Val)
			if !is || n.Kind != val.Int {
				return api.ErrArg
			}
			sum := new(big.Int).Add(big.NewInt(n.Num), big.NewInt(o.Val.Num))
			if !sum.IsInt64() {
				return api.ErrArg
			}
			fields[name] = val.OfInt(sum.Int64())
		}
	}
	return api.OK
}

// applied is Apply of right operations in the chapter's words.
func applied(v val.Val, ops []patch.Op) (val.Val, api.Errno) {
	m := modelOf(v)
	for _, o := range ops {
		if e := turn(m, o); e != api.OK {
			return val.Val{}, e
		}
	}
	got := valueOf(m)
	if !got.Right() {
		return val.Val{}, api.ErrDeep
	}
	return got, api.OK
}

// anyName is one of few names.
func anyName(r *rand.Rand) string {
	return []string{"", "a", "b", "\x00", "\xff"}[r.Intn(5)]
}

// anyVal is some right value that is so deep at most; mostly maps and numbers.
func anyVal(r *rand.Rand, deep int) val.Val {
	switch n := r.Intn(12); {
	case n == 0:
		return val.Val{}
	case n == 1:
		return val.OfBool(r.Intn(2) == 0)
	case n == 2:
		return val.OfText(anyName(r))
	case n < 5 || deep < 2:
		return val.OfInt(int64(r.Uint64()) >> r.Intn(64))
	case n == 5:
		return val.OfList(anyVal(r, deep-1), anyVal(r, deep-1))
	}
	m := val.OfMap()
	for range r.Intn(6) {
		m = m.With(anyName(r), anyVal(r, deep-1))
	}
	return m
}

// anyOp is some right operation.
func anyOp(r *rand.Rand) patch.Op {
	o := patch.Op{Kind: patch.Set + patch.Kind(r.Intn(3)), Path: []string{anyName(r)}}
	for r.Intn(2) == 0 && len(o.Path) < patch.MaxPath {
		o.Path = append(o.Path, anyName(r))
	}
	switch o.Kind {
	case patch.Set:
		o.Val = anyVal(r, 4)
		if r.Intn(10) == 0 {
			o.Val = inMaps(api.MaxDeep-1-r.Intn(4), val.OfInt(1))
		}
	case patch.Add:
		o.Val = val.OfInt(int64(r.Uint64()) >> r.Intn(64))
	}
	return o
}

// P8.2: of many documents and operations what the chapter's words come to, operation by operation.
func TestAgainstModel(t *testing.T) {
	r := rand.New(rand.NewSource(8))
	seen := map[api.Errno]int{}
	for range 10000 {
		v := val.OfMap()
		for range 5 {
			v = v.With(anyName(r), anyVal(r, 5))
		}
		var ops []patch.Op
		for range r.Intn(8) {
			o := anyOp(r)
			// Most that can't be done at this place are left out, so that more than the first few are come to.
			if _, e := applied(v, append(ops, o)); e == api.OK || e == api.ErrDeep || r.Intn(4) == 0 {
				ops = append(ops, o)
			}
		}
		want, wantE := applied(v, ops)
		got, e := patch.Apply(v, ops)
		if e != wantE || !reflect.DeepEqual(got, want) {
			t.Fatalf("%v by %v: %v, %d, not %v, %d", v, ops, got, e, want, wantE)
		}
		seen[e]++
		wantCoded(t, ops)
	}
	for _, e := range []api.Errno{api.OK, api.ErrNone, api.ErrArg, api.ErrDeep} {
		if seen[e] < 20 {
			t.Errorf("error %d was seen %d times", e, seen[e])
		}
	}
}
