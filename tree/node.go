package tree

import (
	"slices"
	"strings"

	"cooperage/api"
)

// node: what stands in a page of a map, or is to stand there.
type node struct {
	level int    // 0: a leaf
	items []item // of a leaf the map's pairs, above one for each page below
	page  int    // nowhere, if it has none yet
	keys  span   // those that may stand here and below
	was   int    // how many bytes the items took when they were read
	at    int    // below which item the way to a key goes on
	fresh bool   // whether its page doesn't hold it as it is
}

// item: a pair of a node; above the leaves its value is the number of a page, and there is the node that stands there, if it has been read, or is new.
type item struct {
	api.Pair
	node *node
}

// span: the keys that aren't below low and, unless high is "", are below high.
type span struct {
	low, high string
}

// has answers whether a key is one of them.
func (s span) has(key string) bool {
	return key >= s.low && !s.endsBefore(key)
}

// endsBefore answers whether all of them are below a key.
func (s span) endsBefore(key string) bool {
	return s.high != "" && key >= s.high
}

// search answers where a key stands, or belongs, and whether it stands there.
func (n *node) search(key string) (int, bool) {
	return slices.BinarySearchFunc(n.items, key, func(p item, key string) int {
		return strings.Compare(p.Key, key)
	})
}

// wayTo answers below which item a key stands, or belongs.
func (n *node) wayTo(key string) int {
	at, there := n.search(key)
	if there {
		return at
	}
	return at - 1
}

// spanOf answers the keys that may stand below an item.
func (n *node) spanOf(at int) span {
	keys := n.keys
	if at > 0 {
		keys.low = n.items[at].Key
	}
	if at+1 < len(n.items) {
		keys.high = n.items[at+1].Key
	}
	return keys
}

// pairs answers the map's pairs that stand here: none above the leaves.
func (n *node) pairs() []item {
	if n.level > 0 {
		return nil
	}
	return n.items
}

// isSound answers whether a map may have such a node.
func (n *node) isSound() bool {
	if n.level < 0 || n.level > topLevel || len(n.items) == 0 {
		return false
	}
	if n.level > 0 && n.items[0].Key != "" {
		return false
	}
	for k, p := range n.items {
		if k > 0 && p.Key <= n.items[k-1].Key || len(p.Key) > api.MaxKey || len(p.Val) > api.MaxVal {
			return false
		}
		if n.level > 0 && len(p.Val) != pageSize {
			return false
		}
	}
	return true
}

// isWithin answers whether such keys alone stand here.
func (n *node) isWithin(keys span) bool {
	items := n.items
	if n.level > 0 {
		items = items[1:]
	}
	return len(items) == 0 || keys.has(items[0].Key) && keys.has(items[len(items)-1].Key)
}

// size answers how many bytes an item takes.
func (i item) size() int {
	return pairHead + len(i.Key) + len(i.Val)
}

// size answers how many bytes the items take.
func (n *node) size() int {
	size := 0
	for _, i := range n.items {
		size += i.size()
	}
	return size
}

// fits answers whether a page can hold the node.
func (n *node) fits() bool {
	return n.size() <= perPage
}

// fitsWith answers whether a page can hold it and the next one, which begins at a key.
func (n *node) fitsWith(next *node, key string) bool {
	size := n.size() + next.size()
	if n.level > 0 {
		size += len(key)
	}
	return size <= perPage
}

// split keeps the lower half of a node that is too great, and answers the other one and the key at which it begins. The longest item is shorter than what a page lacks of two halves, so that either fits.
func (n *node) split() (*node, string) {
	half, size := 0, 0
	for half < len(n.items)-1 && 2*size < n.size() {
		size += n.items[half].size()
		half++
	}
	upper := &node{level: n.level, items: n.items[half:], page: nowhere, fresh: true}
	between := upper.items[0].Key
	if n.level > 0 {
		upper.items[0].Key = ""
	} else {
		between = shortest(n.items[half-1].Key, between)
	}
	upper.keys = span{between, n.keys.high}
	n.items, n.keys.high, n.fresh = slices.Clip(n.items[:half]), between, true
	return upper, between
}

// shortest answers the shortest text that b begins with and that is above a.
func shortest(a, b string) string {
	n := 0
	for n < len(a) && a[n] == b[n] {
		n++
	}
	return b[:n+1]
}
