package txn

import (
	"mailbag/api"
	"mailbag/tree"
)

// pull is the writes of a tree from a key on, below another one, that are pulled one by one, while another sequence is gone through.
type pull struct {
	writes *tree.Tree[api.Write]
	from   string // where what wasn't pulled yet begins
	to     string
	head   api.Write // what comes next
	is     bool      // whether anything comes
}

// pullFrom begins to pull at a key.
func pullFrom(writes *tree.Tree[api.Write], from, to string) *pull {
	p := &pull{writes: writes, from: from, to: to}
	p.next()
	return p
}

// next is what comes next; behind it the one behind that does.
func (p *pull) next() api.Write {
	w := p.head
	for key, head := range p.writes.Range(p.from, p.to) {
		p.head, p.is = head, true
		p.from = key + "\x00" // no key is between these two
		return w
	}
	p.stop()
	return w
}

// stop lets go of what is pulled from: nothing comes any more.
func (p *pull) stop() { *p = pull{} }
