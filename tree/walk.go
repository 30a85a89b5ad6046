package tree

import "cooperage/api"

// root answers the node that stands above all others; nil, if there is none.
func (t *Tree) root() (*node, api.Errno) {
	if t == nil {
		return nil, api.ErrDown
	}
	number, e := t.room.Root(t.place)
	if e != api.OK || number == 0 {
		return nil, e
	}
	if number > uint64(t.room.Pages()) {
		return nil, api.ErrLost
	}
	return t.read(int(number-1), span{})
}

// read answers the node that stands in a page, if one does that has such keys alone.
func (t *Tree) read(page int, keys span) (*node, api.Errno) {
	held, e := t.room.Read(page)
	if e == api.ErrDown {
		return nil, e
	}
	if e != api.OK {
		return nil, api.ErrLost
	}
	n, ok := nodeOf(held)
	if !ok || !n.isWithin(keys) {
		return nil, api.ErrLost
	}
	n.page, n.keys, n.was = page, keys, n.size()
	return n, api.OK
}

// readBelow answers the node below an item of another one. It is one level lower, so that each way ends, whatever stands in the pages.
func (t *Tree) readBelow(n *node, at int) (*node, api.Errno) {
	child, e := t.read(pageOf(n.items[at].Val), n.spanOf(at))
	if e == api.OK && child.level != n.level-1 {
		return nil, api.ErrLost
	}
	return child, e
}

// below answers the node below an item, which knows it from then on.
func (t *Tree) below(n *node, at int) (*node, api.Errno) {
	if n.items[at].node != nil {
		return n.items[at].node, api.OK
	}
	child, e := t.readBelow(n, at)
	n.items[at].node = child
	return child, e
}

// find answers the nodes on the way to a key, from the root to a leaf; none, if there are none.
func (t *Tree) find(key string) ([]*node, api.Errno) {
	n, e := t.root()
	if e != api.OK || n == nil {
		return nil, e
	}
	path := []*node{n}
	for n.level > 0 {
		n.at = n.wayTo(key)
		n, e = t.below(n, n.at)
		if e != api.OK {
			return nil, e
		}
		path = append(path, n)
	}
	return path, api.OK
}

// each goes through the nodes in which such keys may stand, one above ahead of those below, and these rising, till see answers false.
func (t *Tree) each(keys span, see func(n *node) bool) api.Errno {
	n, e := t.root()
	if e != api.OK || n == nil {
		return e
	}
	_, e = t.eachFrom(n, keys, see)
	return e
}

// eachFrom goes through a node and those below it, and answers whether see answered true each time. It comes to no leaf twice, whatever stands in the pages, since the keys of none are in the spans of two items, and so it ends soon.
func (t *Tree) eachFrom(n *node, keys span, see func(n *node) bool) (bool, api.Errno) {
	if !see(n) {
		return false, api.OK
	}
	if n.level == 0 {
		return true, api.OK
	}
	for at := n.wayTo(keys.low); at < len(n.items) && !keys.endsBefore(n.items[at].Key); at++ {
		child, e := t.readBelow(n, at)
		if e != api.OK {
			return false, e
		}
		goesOn, e := t.eachFrom(child, keys, see)
		if e != api.OK || !goesOn {
			return false, e
		}
	}
	return true, api.OK
}
