package tree

import (
	"slices"

	"cooperage/api"
)

// settling: how a map comes to stand in pages again, after a leaf has changed. All nodes that change are found ahead of the first one's being written, so that pages that one of them leaves another one can have.
type settling struct {
	*Tree
	spare []int // pages that nodes have left
}

// settle lets the pages hold what the last node of a path, as find answers it, has become. Where that can't be, nothing has changed.
//
// Neighbours below one node never fit in one page together, so that a map takes few pages and few levels. They are joined wholly, or not at all: nothing goes from one that stays to another one, so that no key above grows, and no page more is needed, where something is taken away.
func (t *Tree) settle(path []*node) api.Errno {
	s := &settling{Tree: t}
	path[len(path)-1].fresh = true
	for k := len(path) - 1; k > 0; k-- {
		if e := s.settleBelow(path[k-1], path[k]); e != api.OK {
			return e
		}
	}
	top, e := s.newRoot(path[0])
	if e != api.OK {
		return e
	}
	mark := t.room.Mark()
	e = s.store(top)
	if e != api.OK {
		t.room.Back(mark)
	}
	return e
}

// settleBelow splits, joins or drops a node that has changed, and its neighbours, so that each fits in a page of its own, and no two in one.
func (s *settling) settleBelow(above, child *node) api.Errno {
	if child.fits() && child.size() >= child.was {
		return api.OK
	}
	from, to := max(above.at-1, 0), min(above.at+2, len(above.items))
	var list []item
	for at := from; at < to; at++ {
		n, e := s.below(above, at)
		if e != api.OK {
			return e
		}
		for _, i := range s.itemsFor(n, above.items[at]) {
			list, e = s.joined(list, i)
			if e != api.OK {
				return e
			}
		}
	}
	if slices.Equal(list, above.items[from:to]) {
		return api.OK
	}
	if len(list) > 0 {
		list[0].Key = above.items[from].Key
	}
	above.items, above.fresh = slices.Replace(above.items, from, to, list...), true
	return api.OK
}

// itemsFor answers what stands above in an item's stead, as its node has become: itself, two, if the node is too great for a page, or nothing, if it is empty.
func (s *settling) itemsFor(n *node, i item) []item {
	switch {
	case len(n.items) == 0:
		s.leave(n)
		return nil
	case n.fits():
		return []item{i}
	}
	upper, key := n.split()
	return []item{i, itemOf(key, upper)}
}

// itemOf answers the item above a node that has no page yet.
func itemOf(key string, n *node) item {
	return item{api.Pair{Key: key, Val: pageVal(0)}, n}
}

// joined answers a list with an item more, whose node is joined to that of the last one, if both fit in one page.
func (s *settling) joined(list []item, i item) ([]item, api.Errno) {
	if len(list) > 0 {
		last := list[len(list)-1].node
		if last.fitsWith(i.node, i.Key) {
			return list, s.join(last, i.node, i.Key)
		}
	}
	return append(list, i), api.OK
}

// join lets a node hold what the next one holds, too, which begins at a key. Below it two nodes are neighbours then that were none, so that they may be joined as well.
func (s *settling) join(n, next *node, key string) api.Errno {
	rest := next.items
	if n.level > 0 {
		last, e := s.below(n, len(n.items)-1)
		if e != api.OK {
			return e
		}
		first, e := s.below(next, 0)
		if e != api.OK {
			return e
		}
		rest[0].Key = key
		if last.fitsWith(first, key) {
			if e := s.join(last, first, key); e != api.OK {
				return e
			}
			rest = rest[1:]
		}
	}
	n.items, n.keys.high, n.fresh = slices.Concat(n.items, rest), next.keys.high, true
	s.leave(next)
	return api.OK
}

// leave lets a node's page be one to spare. (A new node is never left: it is the upper half of one that was too great, and so doesn't fit in one page with what is ahead of it.)
func (s *settling) leave(n *node) {
	s.spare = append(s.spare, n.page)
}

// newRoot answers the node that stands above all others, the one that did having changed; nil, if there is none.
func (s *settling) newRoot(root *node) (*node, api.Errno) {
	switch {
	case len(root.items) == 0:
		s.leave(root)
		return nil, api.OK
	case root.level > 0 && len(root.items) == 1:
		s.leave(root)
		return s.below(root, 0)
	case root.fits():
		return root, api.OK
	case root.level == topLevel:
		return nil, api.ErrLost
	}
	upper, key := root.split()
	items := []item{itemOf("", root), itemOf(key, upper)}
	return &node{level: root.level + 1, items: items, page: nowhere, fresh: true}, api.OK
}

// store lets pages hold the nodes that have changed, from the root on, and the place tell where it stands.
func (s *settling) store(root *node) api.Errno {
	number := uint64(0)
	if root != nil {
		if e := s.write(root); e != api.OK {
			return e
		}
		number = uint64(root.page) + 1
	}
	for _, page := range s.spare {
		if e := s.room.Free(page); e != api.OK {
			return e
		}
	}
	before, e := s.room.Root(s.place)
	if e != api.OK || before == number {
		return e
	}
	return s.room.SetRoot(s.place, number)
}

// write lets a page hold a node, if none does, and those below it theirs; a node that has none takes one to spare, or else one that is free.
func (s *settling) write(n *node) api.Errno {
	for k, i := range n.items {
		if i.node == nil {
			continue
		}
		if e := s.write(i.node); e != api.OK {
			return e
		}
		n.items[k].Val = pageVal(i.node.page)
	}
	if !n.fresh {
		return api.OK
	}
	if n.page == nowhere {
		page, e := s.take()
		if e != api.OK {
			return e
		}
		n.page = page
	}
	return s.room.Write(n.page, pageText(n))
}

// take answers a page for a node that has none.
func (s *settling) take() (int, api.Errno) {
	if len(s.spare) == 0 {
		return s.room.Alloc()
	}
	page := s.spare[0]
	s.spare = s.spare[1:]
	return page, api.OK
}
