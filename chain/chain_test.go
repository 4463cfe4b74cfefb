package chain_test

import (
	"fmt"
	"math"
	"math/rand"
	"slices"
	"testing"

	"mailbag/api"
	"mailbag/chain"
)

// example is the chapter's: 1: a, 4: gone, 6: b.
func example() chain.Chain {
	return chain.Chain{{Seq: 1, Val: "a"}, {Seq: 4, Gone: true}, {Seq: 6, Val: "b"}}
}

// some is a chain that is right.
func some(r *rand.Rand) chain.Chain {
	var c chain.Chain
	seq := r.Intn(3)
	for range r.Intn(12) {
		v := chain.Version{Seq: seq}
		switch r.Intn(5) {
		case 0, 1:
			v.Gone = true
		case 2: // no text, and yet there
		default:
			v.Val = fmt.Sprint("v", seq)
		}
		c = append(c, v)
		seq += 1 + r.Intn(3)
	}
	return c
}

// anyhow is a chain that need not be right.
func anyhow(r *rand.Rand) chain.Chain {
	seqs := []int{math.MinInt, -2, -1, 0, 1, 2, 3, api.MaxSeq, api.MaxSeq + 1, math.MaxInt}
	var c chain.Chain
	for range r.Intn(6) {
		c = append(c, chain.Version{Seq: seqs[r.Intn(len(seqs))], Val: []string{"", "a"}[r.Intn(2)], Gone: r.Intn(2) == 0})
	}
	return c
}

// at is At in the chapter's words, version by version.
func at(c chain.Chain, seq int) (string, bool) {
	text, is := "", false
	for _, v := range c {
		if v.Seq <= seq {
			text, is = v.Val, !v.Gone
		}
	}
	return text, is
}

// cut is Cut in the chapter's words: without those for which there is a later one that isn't above seq, and without what is gone by seq.
func cut(c chain.Chain, seq int) chain.Chain {
	var kept chain.Chain
	for i, v := range c {
		over := i+1 < len(c) && c[i+1].Seq <= seq
		if !over && !(v.Gone && v.Seq <= seq) {
			kept = append(kept, v)
		}
	}
	return kept
}

// seqs are numbers of commits at which chains of low numbers are asked, and at the bounds.
func seqs() []int {
	all := []int{math.MinInt, -2, -1, api.MaxSeq - 1, api.MaxSeq, api.MaxSeq + 1, math.MaxInt}
	for seq := range 40 {
		all = append(all, seq)
	}
	return all
}

// P7.1
func TestRight(t *testing.T) {
	for _, c := range []chain.Chain{
		nil,
		{},
		{{Seq: 0}},
		{{Seq: 0, Gone: true}},
		{{Seq: 0, Val: "a"}},
		{{Seq: api.MaxSeq}},
		{{Seq: 0}, {Seq: 1}, {Seq: api.MaxSeq - 1}, {Seq: api.MaxSeq}},
		{{Seq: 1, Gone: true}, {Seq: 2, Gone: true}},
		{{Seq: 1, Val: "a"}, {Seq: 2, Val: "a"}},
		example(),
	} {
		if !c.Right() {
			t.Error("wrong:", c)
		}
	}
	for _, c := range []chain.Chain{
		{{Seq: -1}},
		{{Seq: math.MinInt}},
		{{Seq: api.MaxSeq + 1}},
		{{Seq: math.MaxInt}},
		{{Seq: 0}, {Seq: 0}},
		{{Seq: 5}, {Seq: 4}},
		{{Seq: 5}, {Seq: -1}},
		{{Seq: -1}, {Seq: 0}},
		{{Seq: 5}, {Seq: 6}, {Seq: 6}},
		{{Seq: 5}, {Seq: 4}, {Seq: 6}},
		{{Seq: 1}, {Seq: api.MaxSeq + 1}},
		{{Seq: 1, Val: "a", Gone: true}},
		{{Seq: 1, Val: "a"}, {Seq: 2, Val: "\x00", Gone: true}},
		{{Seq: 1, Val: "a", Gone: true}, {Seq: 2}},
	} {
		if c.Right() {
			t.Error("right:", c)
		}
	}
}

// P7.1
func TestLast(t *testing.T) {
	for _, c := range []struct {
		chain chain.Chain
		last  int
	}{
		{nil, -1},
		{chain.Chain{}, -1},
		{chain.Chain{{Seq: 0}}, 0},
		{chain.Chain{{Seq: 3, Gone: true}}, 3},
		{example(), 6},
		{chain.Chain{{Seq: 1}, {Seq: api.MaxSeq}}, api.MaxSeq},
		{chain.Chain{{Seq: 9}, {Seq: -4}}, -4},
	} {
		if got := c.chain.Last(); got != c.last {
			t.Errorf("Last of %v: %d, not %d", c.chain, got, c.last)
		}
	}
}

// P7.1, and the chapter's example.
func TestAt(t *testing.T) {
	for seq, want := range []string{"", "a", "a", "a", "", "", "b", "b", "b"} {
		if text, is := example().At(seq); text != want || is != (want != "") {
			t.Errorf("%d: %q, %t, not %q", seq, text, is, want)
		}
	}
	none := chain.Chain{{Seq: 2}}
	if text, is := none.At(2); text != "" || !is {
		t.Error("no text that is there:", text, is)
	}
	if text, is := none.At(1); text != "" || is {
		t.Error("ahead of all:", text, is)
	}
	first := chain.Chain{{Seq: 0, Val: "x"}}
	if text, is := first.At(-1); text != "" || is {
		t.Error("below nought:", text, is)
	}
	if text, is := first.At(0); text != "x" || !is {
		t.Error("nought:", text, is)
	}
}

// P7.1
func TestAtAgainstWords(t *testing.T) {
	for seed := range int64(2000) {
		c := some(rand.New(rand.NewSource(seed)))
		if !c.Right() {
			t.Fatal("wrong:", c)
		}
		for _, seq := range seqs() {
			text, is := at(c, seq)
			if got, gotIs := c.At(seq); got != text || gotIs != is {
				t.Fatalf("%v at %d: %q, %t, not %q, %t", c, seq, got, gotIs, text, is)
			}
		}
	}
}

// P7.2
func TestPut(t *testing.T) {
	var c chain.Chain
	for _, v := range []chain.Version{{Seq: 0, Val: "a"}, {Seq: 1}, {Seq: 2, Gone: true}, {Seq: 3, Gone: true}, {Seq: 900, Val: "b"}, {Seq: api.MaxSeq, Val: "c"}} {
		d, e := c.Put(v)
		if e != api.OK || !slices.Equal(d, append(slices.Clone(c), v)) || !d.Right() || d.Last() != v.Seq {
			t.Fatalf("%v behind %v: %v, %d", v, c, d, e)
		}
		if text, is := d.At(v.Seq); text != v.Val || is == v.Gone {
			t.Error(text, is)
		}
		c = d
	}
}

// P7.2
func TestPutOfWrong(t *testing.T) {
	for _, c := range []struct {
		chain chain.Chain
		v     chain.Version
	}{
		{nil, chain.Version{Seq: -1}},
		{nil, chain.Version{Seq: math.MinInt}},
		{nil, chain.Version{Seq: api.MaxSeq + 1}},
		{nil, chain.Version{Seq: math.MaxInt}},
		{nil, chain.Version{Seq: 1, Val: "a", Gone: true}},
		{example(), chain.Version{Seq: 6}},
		{example(), chain.Version{Seq: 6, Val: "b"}},
		{example(), chain.Version{Seq: 5}},
		{example(), chain.Version{Seq: 0}},
		{example(), chain.Version{Seq: -1}},
		{example(), chain.Version{Seq: api.MaxSeq + 1}},
		{example(), chain.Version{Seq: 7, Val: "\x00", Gone: true}},
		{chain.Chain{{Seq: api.MaxSeq}}, chain.Version{Seq: api.MaxSeq}},
		{chain.Chain{{Seq: api.MaxSeq}}, chain.Version{Seq: api.MaxSeq + 1}},
		{chain.Chain{{Seq: -9}}, chain.Version{Seq: -3}},
		{chain.Chain{{Seq: math.MaxInt}}, chain.Version{Seq: 3}},
	} {
		ahead := slices.Clone(c.chain)
		if d, e := c.chain.Put(c.v); e != api.ErrArg || len(d) != 0 {
			t.Errorf("%v behind %v: %v, %d", c.v, c.chain, d, e)
		}
		if !slices.Equal(c.chain, ahead) {
			t.Errorf("%v became %v", ahead, c.chain)
		}
	}
}

// P7.2: Put asks its version alone, and the last one: of what is wrong ahead it tells nothing.
func TestPutBehindWrong(t *testing.T) {
	c := chain.Chain{{Seq: 5, Val: "a", Gone: true}, {Seq: -2}}
	if d, e := c.Put(chain.Version{Seq: 0}); e != api.OK || len(d) != 3 || d.Last() != 0 {
		t.Error(d, e)
	}
}

// P7.2, rule 4: an answer of Put is new memory, also if the chain has room behind it.
func TestPutIsApart(t *testing.T) {
	for _, room := range []int{0, 1, 10} {
		c := append(make(chain.Chain, 0, 3+room), example()...)
		one, e := c.Put(chain.Version{Seq: 7, Val: "one"})
		two, f := c.Put(chain.Version{Seq: 8, Val: "two"})
		if e != api.OK || f != api.OK || one[3].Val != "one" || two[3].Val != "two" {
			t.Fatal(room, one, two, e, f)
		}
		one[0].Val = "turned"
		if c[0].Val != "a" || two[0].Val != "a" {
			t.Error(room, "what was answered is what was handed in", c, two)
		}
		c[1].Val = "turned"
		if one[1].Val != "" || two[1].Val != "" {
			t.Error(room, "what was handed in is what was answered", one, two)
		}
		if room > 0 && c[:4][3] != (chain.Version{}) {
			t.Error(room, "laid behind what was handed in", c[:4])
		}
	}
	a, e := chain.Chain{}.Put(chain.Version{Seq: 1})
	if e != api.OK || len(a) != 1 {
		t.Error(a, e)
	}
}

// P7.2, and the chapter's example.
func TestCut(t *testing.T) {
	for seq, first := range []int{0, 0, 0, 0, 2, 2, 2, 2} {
		if got := example().Cut(seq); !slices.Equal(got, example()[first:]) {
			t.Errorf("Cut(%d): %v", seq, got)
		}
	}
	for _, c := range []struct {
		chain, want chain.Chain
		seq         int
	}{
		{nil, nil, 0},
		{chain.Chain{}, nil, 5},
		{chain.Chain{{Seq: 0, Val: "a"}}, chain.Chain{{Seq: 0, Val: "a"}}, -1},
		{chain.Chain{{Seq: 0, Gone: true}}, chain.Chain{{Seq: 0, Gone: true}}, -1},
		{chain.Chain{{Seq: 0, Gone: true}}, nil, 0},
		{chain.Chain{{Seq: 0}}, chain.Chain{{Seq: 0}}, 0},
		{chain.Chain{{Seq: 1, Gone: true}, {Seq: 2, Gone: true}}, chain.Chain{{Seq: 2, Gone: true}}, 1},
		{chain.Chain{{Seq: 1, Gone: true}, {Seq: 2, Gone: true}}, nil, 2},
		{chain.Chain{{Seq: 1}, {Seq: api.MaxSeq}}, chain.Chain{{Seq: api.MaxSeq}}, math.MaxInt},
		{example(), example(), math.MinInt},
	} {
		if got := c.chain.Cut(c.seq); !slices.Equal(got, c.want) {
			t.Errorf("Cut(%d) of %v: %v, not %v", c.seq, c.chain, got, c.want)
		}
	}
}

// P7.2: what is cut is what the words say; it is right, and At tells the same from there on.
func TestCutAgainstWords(t *testing.T) {
	for seed := range int64(2000) {
		c := some(rand.New(rand.NewSource(seed)))
		for _, seq := range seqs() {
			d := c.Cut(seq)
			if !slices.Equal(d, cut(c, seq)) || !d.Right() {
				t.Fatalf("Cut(%d) of %v: %v, not %v", seq, c, d, cut(c, seq))
			}
			for _, later := range seqs() {
				text, is := c.At(later)
				if got, gotIs := d.At(later); later >= seq && (got != text || gotIs != is) {
					t.Fatalf("Cut(%d) of %v, at %d: %q, %t, not %q, %t", seq, c, later, got, gotIs, text, is)
				}
			}
		}
	}
}

// P7.2, rule 4: an answer of Cut is new memory.
func TestCutIsApart(t *testing.T) {
	for _, seq := range []int{-1, 0, 1, 4, 6, 9} {
		c := example()
		d := c.Cut(seq)
		for i := range d {
			d[i].Val = "turned"
		}
		_ = append(d[:0], chain.Version{Seq: 77})
		if !slices.Equal(c, example()) {
			t.Errorf("Cut(%d): what was handed in became %v", seq, c)
		}
	}
}

// Rule 1: of chains that aren't right as well each call ends, and none panics; and no chain that was handed in is turned.
func TestOfWrongChains(t *testing.T) {
	for seed := range int64(3000) {
		r := rand.New(rand.NewSource(seed))
		c := anyhow(r)
		ahead := slices.Clone(c)
		c.Right()
		for _, seq := range seqs() {
			if text, is := c.At(seq); !is && text != "" {
				t.Fatalf("%v at %d: %q, but nothing is there", c, seq, text)
			}
			for _, d := range []chain.Chain{c.Cut(seq), c.Cut(seq).Cut(seq)} {
				for i := range d {
					d[i].Seq = 12345
				}
			}
			if d, e := c.Put(chain.Version{Seq: seq}); e == api.OK {
				d[0].Seq = 12345
			}
		}
		if !slices.Equal(c, ahead) {
			t.Fatalf("%v became %v", ahead, c)
		}
	}
}
