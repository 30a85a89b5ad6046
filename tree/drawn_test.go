package tree_test

import (
	"fmt"
	"math"
	"math/rand"
	"slices"
	"strings"
	"testing"
	"time"

	"cooperage/api"
	"cooperage/room"
	"cooperage/sector"
	"cooperage/tree"
	"cooperage/tx"
	"cooperage/wal"
)

// drawnKey: one of some 200, of unlike lengths and bytes.
func drawnKey(source *rand.Rand) string {
	return keyOf(source.Intn(200))
}

// keyOf: the n-th of those keys.
func keyOf(n int) string {
	switch n % 5 {
	case 0:
		return fmt.Sprint(n)
	case 1:
		return strings.Repeat("\x00", n%90) + fmt.Sprint(n)
	case 2:
		return strings.Repeat("k", 90) + fmt.Sprint(n)
	case 3:
		return strings.Repeat("\xff", n%97)
	}
	return fmt.Sprintf("%03d", n) + strings.Repeat("-", n%94)
}

// act: a drawn call of a drawn room.
func (b *bench) act(source *rand.Rand) {
	b.t.Helper()
	k, place, key := source.Intn(len(b.rooms)), []int{0, 5, 5, 5, 5, 15}[source.Intn(6)], drawnKey(source)
	switch source.Intn(24) {
	case 0, 1, 2, 3, 4, 5, 6, 7, 8:
		b.put(k, place, key, long(source.Intn(57)))
	case 9, 10, 11, 12, 13:
		b.delete(k, place, key)
	case 14:
		b.put(k, place, []string{long(97), key}[source.Intn(2)], long(57))
	case 15:
		b.put(k, places()[source.Intn(len(places()))], key, "")
	case 16:
		b.scan(k, place, key, drawnKey(source), source.Intn(6))
	case 17:
		if !b.down {
			b.leave(source.Intn(b.want.pages))
		}
	case 18:
		if keys := b.want.keys(place); len(keys) > 0 {
			b.delete(k, place, keys[source.Intn(len(keys))])
		}
	case 19:
		b.mark(k)
	case 20, 21:
		list := []int{-1, math.MaxInt}
		for _, m := range b.marks {
			list = append(list, m.mark, m.mark)
		}
		b.back(k, list[source.Intn(len(list))])
	case 22:
		if !b.down {
			b.commit()
		}
	case 23:
		if source.Intn(5) == 0 {
			b.forget()
		}
	}
}

// P9.1: drawn calls of one room, of two and of three of one change, to the log's going down, behind it, and when it is opened again.
func TestDrawnActs(t *testing.T) {
	for _, pages := range []int{1, 2, 5, 30, 90} {
		for rooms := 1; rooms <= 3; rooms++ {
			for seed := range 3 {
				source := rand.New(rand.NewSource(int64(seed)))
				b := laid(t, pages, rooms)
				for range 120 {
					b.act(source)
				}
				b.bringDown()
				for range 10 {
					b.act(source)
				}
				b.reopen()
				for range 10 {
					b.act(source)
				}
			}
		}
	}
}

// kinds: of maps: which keys there may be, and how long a value.
var kinds = map[string]struct {
	keys   []string
	values func(source *rand.Rand) int
}{
	"short":           {shortKeys(), func(source *rand.Rand) int { return 0 }},
	"long":            {numbered(600, 96), func(source *rand.Rand) int { return 56 }},
	"long keys":       {numbered(600, 96), func(source *rand.Rand) int { return 0 }},
	"any":             {drawnKeys(600, 96), func(source *rand.Rand) int { return source.Intn(57) }},
	"short or long":   {drawnKeys(600, 2), func(source *rand.Rand) int { return 56 * source.Intn(2) }},
	"long, drawn":     {drawnKeys(600, 1), func(source *rand.Rand) int { return 56 }},
	"one long in ten": {mixedKeys(600), func(source *rand.Rand) int { return 56 }},
}

// shortKeys: of no, one and two bytes.
func shortKeys() []string {
	list := []string{""}
	for n := range 256 {
		list = append(list, string([]byte{byte(n)}), string([]byte{byte(n), byte(n)}))
	}
	return list
}

// drawnKeys: keys of drawn bytes, of 96 bytes and of shorter ones in as many steps.
func drawnKeys(n, steps int) []string {
	source, list := rand.New(rand.NewSource(9)), []string{}
	for range n {
		key := make([]byte, 96-source.Intn(steps)*96/(steps+1))
		source.Read(key)
		list = append(list, string(key))
	}
	slices.Sort(list)
	return slices.Compact(list)
}

// mixedKeys: most of them are told apart by their first bytes, one in ten from the one ahead only by its last one.
func mixedKeys(n int) []string {
	var list []string
	for k := range n {
		key := fmt.Sprintf("%04d", k)
		if k%10 == 0 {
			list = append(list, key+strings.Repeat("m", 91)+"a")
			key += strings.Repeat("m", 91)
		}
		list = append(list, key+"z")
	}
	slices.Sort(list)
	return list
}

// page: what stands in a page of a map, as this file alone knows it: the first byte is 192 and the level, the second one the number of pairs; these stand behind, in a byte each how long key and value are, then both.
type page struct {
	level, size int
	pairs       []api.Pair
}

func pageOf(t *testing.T, r *room.Room, number int) page {
	t.Helper()
	text, e := r.Read(number)
	says(t, e, api.OK)
	p, rest := page{level: int(text[0]) - 192}, text[2:]
	for range int(text[1]) {
		key, val := int(rest[0]), int(rest[1])
		p.pairs = append(p.pairs, api.Pair{Key: rest[2 : 2+key], Val: rest[2+key : 2+key+val]})
		rest = rest[2+key+val:]
	}
	p.size = 510 - len(rest)
	return p
}

// forged: a page's text.
func forged(level int, pairs ...api.Pair) string {
	text := string([]byte{byte(192 + level), byte(len(pairs))})
	for _, p := range pairs {
		text += string([]byte{byte(len(p.Key)), byte(len(p.Val))}) + p.Key + p.Val
	}
	return text
}

// numberOf: a page's number, as a pair above has it.
func numberOf(page int) string {
	return string([]byte{byte(page >> 8), byte(page)})
}

// few: that the room's pages are as few as P9.2 has those of the map at a place be, beside others'; now and then, that Check tells as many, and that they are as few as hold the promise for any map: no two neighbours fit in one page, no root has one page below it, and all leaves are of one level.
func (b *bench) few(place int) {
	b.t.Helper()
	used, e := b.rooms[0].Used()
	says(b.t, e, api.OK)
	used -= len(b.want.others)
	if n := len(b.want.maps[place]); used > 2*n+16 || n == 0 && used > 0 {
		b.t.Fatalf("%d pairs in %d pages", n, used)
	}
	b.calls++
	if b.calls%8 > 0 && used > 12 {
		return
	}
	check, e := b.tree(0, place).Check()
	tells(b.t, check, e, used, api.OK)
	root, e := b.rooms[0].Root(place)
	says(b.t, e, api.OK)
	if root == 0 {
		return
	}
	top := pageOf(b.t, b.rooms[0], int(root)-1)
	if top.level > 0 && len(top.pairs) < 2 {
		b.t.Fatal("a root with one page below it")
	}
	b.fewBelow(top)
}

func (b *bench) fewBelow(above page) {
	b.t.Helper()
	if above.level == 0 {
		return
	}
	var last page
	for k, pair := range above.pairs {
		p := pageOf(b.t, b.rooms[0], int(pair.Val[0])<<8|int(pair.Val[1]))
		if p.level != above.level-1 || len(p.pairs) == 0 {
			b.t.Fatalf("a page of level %d with %d pairs below one of level %d", p.level, len(p.pairs), above.level)
		}
		both := last.size + p.size
		if p.level > 0 {
			both += len(pair.Key)
		}
		if k > 0 && both <= 510 {
			b.t.Fatalf("two pages of %d and %d bytes beside one another", last.size, p.size)
		}
		b.fewBelow(p)
		last = p
	}
}

// P9.2: behind drawn puts and deletes of each kind of maps, rising to many pairs and falling to none, with runs of neighbours among them: the pages are no more than 2 n + 16, none without pairs, and Check, Pages and Used tell the same.
func TestFewPages(t *testing.T) {
	for name, kind := range kinds {
		t.Run(name, func(t *testing.T) {
			for seed := range 4 {
				source := rand.New(rand.NewSource(int64(seed)))
				b := laid(t, 900, 1)
				b.lazy = true
				for _, share := range []int{90, 50, 10, 70, 30, 0} {
					for n := 0; n < 250; {
						n += b.run(source, 2, kind.keys, kind.values, share)
					}
					b.lazy = false
					b.check()
					b.lazy = true
				}
				for _, key := range inOrder(b.want.keys(2), orders[seed%3]) {
					b.delete(0, 2, key)
					b.few(2)
				}
				used, e := b.rooms[0].Used()
				tells(t, used, e, 0, api.OK)
			}
		})
	}
}

// run: puts, or deletes, a few keys that stand side by side; share of a hundred are puts. It tells how many.
func (b *bench) run(source *rand.Rand, place int, keys []string, values func(source *rand.Rand) int, share int) int {
	b.t.Helper()
	count, at := 1+source.Intn(8), source.Intn(len(keys))
	puts := source.Intn(100) < share
	for _, key := range keys[at:min(len(keys), at+count)] {
		if puts {
			b.put(0, place, key, long(values(source)))
		} else {
			b.delete(0, place, key)
		}
		b.few(place)
	}
	return count
}

// P9.2: of a map of many pairs all are taken away but each so many-th one: what stays takes few pages, at each step.
func TestFewAreLeft(t *testing.T) {
	for _, every := range []int{2, 3, 4, 7, 50} {
		for _, size := range []int{6, 50, 96} {
			b := laid(t, 900, 1)
			b.lazy = true
			keys := numbered(700, size)
			for _, key := range inOrder(keys, "drawn") {
				b.put(0, 0, key, long(56))
			}
			for _, order := range []string{"rising", "drawn"} {
				for _, key := range inOrder(keys, order) {
					if slices.Index(keys, key)%every > 0 {
						b.delete(0, 0, key)
						b.few(0)
					}
				}
			}
			b.few(0)
			b.lazy = false
			b.check()
		}
	}
}

// P9.2, Put: in a room with just as many free pages as it needs it is done; with one less, and with none, if it needs any, it is refused by ErrFull, and nothing has changed.
func TestPutInLittleRoom(t *testing.T) {
	for name, kind := range kinds {
		t.Run(name, func(t *testing.T) {
			source := rand.New(rand.NewSource(2))
			b := laid(t, 900, 1)
			b.lazy = true
			needed := map[int]int{}
			for n := range 700 {
				b.lazy = n%100 > 0
				b.leave(40)
				if n%3 == 2 {
					if keys := b.want.keys(3); len(keys) > 0 {
						b.delete(0, 3, keys[source.Intn(len(keys))])
					}
					continue
				}
				key, val := kind.keys[source.Intn(len(kind.keys))], long(kind.values(source))
				mark, free := b.mark(0), b.free()
				says(t, b.put(0, 3, key, val), api.OK)
				needs := free - b.free()
				b.back(0, mark)
				needed[needs]++
				for _, left := range []int{needs - 1, 0, needs} {
					want := api.ErrFull
					if left >= needs {
						want = api.OK
					}
					if left >= 0 {
						mark := b.mark(0)
						b.leave(left)
						says(t, b.put(0, 3, key, val), want)
						b.back(0, mark)
					}
				}
				b.put(0, 3, key, val)
			}
			if needed[0] == 0 || needed[1] == 0 || needed[2] == 0 {
				t.Fatalf("pages needed: %v", needed)
			}
		})
	}
}

// P9.2: with three free pages and two more for each level no Put is refused, whatever is there. (That put checks; here the room is kept as full as that.)
func TestNoPutIsRefused(t *testing.T) {
	for name, kind := range kinds {
		t.Run(name, func(t *testing.T) {
			source := rand.New(rand.NewSource(4))
			b := laid(t, 700, 1)
			b.lazy = true
			for range 1200 {
				b.leave(3 + 2*b.levels(8))
				key := kind.keys[source.Intn(len(kind.keys))]
				if source.Intn(4) > 0 {
					says(t, b.put(0, 8, key, long(kind.values(source))), api.OK)
				} else {
					b.delete(0, 8, key)
				}
				b.few(8)
			}
			b.lazy = false
			b.check()
		})
	}
}

// P9.3: in a room without a free page each Delete is done, down to the last key, in each order; somebody else takes each page that it gives back.
func TestDeleteInAFullRoom(t *testing.T) {
	for name, kind := range kinds {
		for _, order := range orders {
			t.Run(name+", "+order, func(t *testing.T) {
				source := rand.New(rand.NewSource(6))
				b := laid(t, 600, 1)
				b.lazy = true
				for _, key := range inOrder(kind.keys, "drawn") {
					b.put(0, 11, key, long(kind.values(source)))
				}
				for k, key := range inOrder(b.want.keys(11), order) {
					b.lazy = k%150 > 0
					b.leave(0)
					b.delete(0, 11, key)
					b.few(11)
				}
				pages, e := b.tree(0, 11).Pages()
				lists(t, pages, e, nil, api.OK)
			})
		}
	}
}

// agree: that all calls of the map at a place end and agree with one another, whatever stands in the pages; that what is refused is refused by ErrLost (or ErrFull), and changes nothing. All is taken back. It tells whether the whole map is one.
func (b *bench) agree(place int) api.Errno {
	b.t.Helper()
	m, mark, before := b.tree(0, place), b.change.Mark(), b.allHomes()
	pages, e := m.Pages()
	check, checkErr := m.Check()
	tells(b.t, check, checkErr, len(pages), e)
	all, allErr := m.Scan("", "", math.MaxInt)
	says(b.t, allErr, e)
	count, countErr := m.Count()
	tells(b.t, count, countErr, len(all), e)
	if e != api.OK {
		says(b.t, e, api.ErrLost)
	}
	for k := range pages {
		if k > 0 && pages[k] <= pages[k-1] {
			b.t.Fatalf("pages %v", pages)
		}
	}
	for k, p := range all {
		if k > 0 && p.Key <= all[k-1].Key || len(p.Key) > 96 || len(p.Val) > 56 {
			b.t.Fatalf("key %q", p.Key)
		}
		gets(b.t, m, p.Key, p.Val, true, api.OK)
	}
	b.looked(mark, before)
	for _, key := range []string{"", "\x00", "5", keyOf(2), keyOf(7), keyOf(61), "k", numbered(9, 96)[8], strings.Repeat("\xff", 96), long(97)} {
		val, there, getErr := m.Get(key)
		some, someErr := m.Scan(key, key+"\x00", 9)
		if getErr == api.OK && someErr == api.OK && there != (len(some) == 1 && some[0] == api.Pair{Key: key, Val: val}) {
			b.t.Fatalf("%q: %q, %v, but %v", key, val, there, some)
		}
		b.looked(mark, before)
		putErr := m.Put(key, long(20))
		if putErr == api.OK {
			gets(b.t, m, key, long(20), true, api.OK)
			b.change.Back(mark)
		}
		b.looked(mark, before)
		was, deleteErr := m.Delete(key)
		if deleteErr == api.OK && e == api.OK && was != there {
			b.t.Fatalf("%q: %v, but %v", key, there, was)
		}
		if was {
			gets(b.t, m, key, "", false, api.OK)
		}
		b.change.Back(mark)
		for _, e := range []api.Errno{getErr, someErr, putErr, deleteErr} {
			if e != api.OK && e != api.ErrLost && e != api.ErrFull && e != api.ErrBig {
				b.t.Fatalf("refused by %d", e)
			}
		}
	}
	return e
}

// looked: that nothing has changed, and nothing was put.
func (b *bench) looked(mark int, before []string) {
	b.t.Helper()
	if b.change.Mark() != mark || !slices.Equal(before, b.allHomes()) {
		b.t.Fatal("what only looks, or was refused, has changed something")
	}
}

// broken: a room of 60 pages with maps at places 0 and 1.
func broken(t *testing.T) *bench {
	t.Helper()
	b := laid(t, 60, 1)
	b.lazy = true
	for k, key := range numbered(36, 96) {
		b.put(0, 0, keyOf(k), long(k%57))
		b.put(0, 0, key, long(k))
		b.put(0, 1, keyOf(k+30), "")
	}
	b.commit()
	b.lazy = false
	b.check()
	if b.levels(0) < 3 {
		t.Fatalf("%d levels", b.levels(0))
	}
	return b
}

// P9.1, P0: maps of which a page is free, or holds noughts, or something else, or the bytes of another page of any map: each call ends, and what is found to be no map is ErrLost.
func TestBrokenMaps(t *testing.T) {
	b := broken(t)
	r := b.rooms[0]
	pages, e := b.tree(0, 0).Pages()
	says(t, e, api.OK)
	others, e := b.tree(0, 1).Pages()
	says(t, e, api.OK)
	root, e := r.Root(0)
	says(t, e, api.OK)
	for _, page := range pages {
		mark := r.Mark()
		says(t, r.Free(page), api.OK)
		says(t, b.agree(0), api.ErrLost)
		r.Back(mark)
		for _, s := range []string{"", "n", long(512), strings.Repeat("\xff", 512)} {
			says(t, r.Write(page, s), api.OK)
			says(t, b.agree(0), api.ErrLost)
			r.Back(mark)
		}
		for _, other := range slices.Concat(pages, others) {
			s, e := r.Read(other)
			says(t, e, api.OK)
			says(t, r.Write(page, s), api.OK)
			if e := b.agree(0); slices.Contains(pages, other) && other != page && e != api.ErrLost && page != int(root)-1 {
				t.Fatalf("page %d holds what page %d does, and a map has both", page, other)
			}
			b.agree(1)
			r.Back(mark)
		}
	}
	b.check()
}

// P9.1, P0: a place whose number is a page of a map, but not its root: each call ends; a leaf alone is a map.
func TestNumberOfAnotherPage(t *testing.T) {
	b := broken(t)
	pages, e := b.tree(0, 0).Pages()
	says(t, e, api.OK)
	for _, page := range pages {
		says(t, b.rooms[0].SetRoot(7, uint64(page)+1), api.OK)
		says(t, b.agree(7), api.OK)
	}
}

// P9.1, P0: pages whose bytes are drawn ones, or a map's with a few others among them: each call ends.
func TestDrawnPages(t *testing.T) {
	for seed := range 60 {
		source := rand.New(rand.NewSource(int64(seed)))
		b := broken(t)
		r := b.rooms[0]
		pages, e := b.tree(0, 0).Pages()
		says(t, e, api.OK)
		for range 5 {
			page := pages[source.Intn(len(pages))]
			s, e := r.Read(page)
			says(t, e, api.OK)
			text := []byte(s)
			if source.Intn(9) == 0 {
				source.Read(text)
				text[0] = byte(192 + source.Intn(3))
			}
			for range 1 + source.Intn(2) {
				at := source.Intn([]int{3, 20, 512}[source.Intn(3)])
				text[at] = []byte{0, 1, 2, 96, 97, byte(source.Intn(40)), text[at] + 1, 192, 193, 255}[source.Intn(10)]
			}
			says(t, r.Write(page, string(text)), api.OK)
			b.agree(0)
		}
	}
}

// P9.1, P0: each of the first bytes of a root and of a leaf, in turn, with each other value: each call ends.
func TestEachByte(t *testing.T) {
	b := broken(t)
	r := b.rooms[0]
	root, e := r.Root(0)
	says(t, e, api.OK)
	pages, e := b.tree(0, 0).Pages()
	says(t, e, api.OK)
	leaf := slices.IndexFunc(pages, func(page int) bool { return pageOf(t, r, page).level == 0 })
	for _, page := range []int{int(root) - 1, pages[leaf]} {
		s, e := r.Read(page)
		says(t, e, api.OK)
		for at := range 7 {
			for value := range 256 {
				text := []byte(s)
				text[at] = byte(value)
				mark := r.Mark()
				says(t, r.Write(page, string(text)), api.OK)
				b.agree(0)
				r.Back(mark)
			}
		}
	}
	b.check()
}

// P9.1: pages of forms that no map has.
func TestForgedPages(t *testing.T) {
	b := laid(t, 20, 1)
	b.lazy = true
	r := b.rooms[0]
	for range 6 {
		b.take("")
	}
	says(t, r.SetRoot(0, 1), api.OK)
	a, c := api.Pair{Key: "a", Val: "1"}, api.Pair{Key: "c", Val: "3"}
	leaf, right := forged(0, a, c), forged(0, api.Pair{Key: "m", Val: "4"})
	below := func(key string, page int) api.Pair { return api.Pair{Key: key, Val: numberOf(page)} }
	for name, one := range map[string]struct {
		pages []string
		want  api.Errno
	}{
		"a leaf":                             {[]string{leaf}, api.OK},
		"a level below the leaves":           {[]string{"\xbf" + leaf[1:]}, api.ErrLost},
		"a level far below":                  {[]string{"\x01" + leaf[1:]}, api.ErrLost},
		"a leaf without pairs":               {[]string{forged(0)}, api.ErrLost},
		"keys that fall":                     {[]string{forged(0, c, a)}, api.ErrLost},
		"a key twice":                        {[]string{forged(0, a, a)}, api.ErrLost},
		"a key of 96 bytes":                  {[]string{forged(0, api.Pair{Key: long(96)})}, api.OK},
		"a key of 97 bytes":                  {[]string{forged(0, api.Pair{Key: long(97)})}, api.ErrLost},
		"a value of 56 bytes":                {[]string{forged(0, api.Pair{Val: long(56)})}, api.OK},
		"a value of 57 bytes":                {[]string{forged(0, api.Pair{Val: long(57)})}, api.ErrLost},
		"more pairs than there are bytes":    {[]string{"\xc0\xff" + leaf[2:]}, api.ErrLost},
		"bytes behind the pairs":             {[]string{leaf + "x"}, api.ErrLost},
		"a byte at the page's end":           {[]string{leaf + strings.Repeat("\x00", 511-len(leaf)) + "x"}, api.ErrLost},
		"two leaves":                         {[]string{forged(1, below("", 1), below("d", 2)), leaf, right}, api.OK},
		"two leaves, told by a key there":    {[]string{forged(1, below("", 1), below("m", 2)), leaf, right}, api.OK},
		"a leaf with a key of the next one":  {[]string{forged(1, below("", 1), below("c", 2)), leaf, right}, api.ErrLost},
		"a leaf with a key of the one ahead": {[]string{forged(1, below("", 1), below("n", 2)), leaf, right}, api.ErrLost},
		"one leaf twice":                     {[]string{forged(1, below("", 1), below("d", 1)), leaf}, api.ErrLost},
		"one leaf below":                     {[]string{forged(1, below("", 1)), leaf}, api.OK},
		"none below":                         {[]string{forged(1)}, api.ErrLost},
		"a first key":                        {[]string{forged(1, below("a", 1), below("d", 2)), leaf, right}, api.ErrLost},
		"itself below":                       {[]string{forged(1, below("", 0))}, api.ErrLost},
		"a page of another level below":      {[]string{forged(2, below("", 1), below("d", 2)), leaf, right}, api.ErrLost},
		"a page that isn't there below":      {[]string{forged(1, below("", 1), below("d", 20)), leaf}, api.ErrLost},
		"a page that is free below":          {[]string{forged(1, below("", 1), below("d", 9)), leaf}, api.ErrLost},
		"a number of one byte below":         {[]string{forged(1, below("", 1), api.Pair{Key: "d", Val: "\x02"}), leaf, right}, api.ErrLost},
		"a number of three bytes below":      {[]string{forged(1, below("", 1), api.Pair{Key: "d", Val: "\x00\x02\x00"}), leaf, right}, api.ErrLost},
		"a key of 97 bytes above":            {[]string{forged(1, below("", 1), below(long(97), 2)), leaf, right}, api.ErrLost},
		"a key that its node can't have": {[]string{
			forged(2, below("", 1), below("d", 3)), forged(1, below("", 2), below("e", 4)), leaf, forged(1, below("", 5)), right, right,
		}, api.ErrLost},
	} {
		t.Run(name, func(t *testing.T) {
			b.t = t
			for page := range 6 {
				text := ""
				if page < len(one.pages) {
					text = one.pages[page]
				}
				says(t, r.Write(page, text), api.OK)
			}
			says(t, b.agree(0), one.want)
		})
	}
}

// P9.1, P0: levels above levels, each page there with one below, or with as many as may be, all of them the same one: each call ends soon; of one page each that is a map, and stays one.
func TestForgedLevels(t *testing.T) {
	start := time.Now()
	for _, wide := range []bool{false, true} {
		b := laid(t, 60, 1)
		b.lazy = true
		r := b.rooms[0]
		for range 40 {
			b.take("")
		}
		says(t, r.Write(0, forged(0, api.Pair{Key: "a", Val: "1"})), api.OK)
		for level := 1; level < 40; level++ {
			pairs := []api.Pair{{Val: numberOf(level - 1)}}
			for n := 1; wide && n < 100; n++ {
				pairs = append(pairs, api.Pair{Key: string([]byte{byte(n)}), Val: numberOf(level - 1)})
			}
			says(t, r.Write(level, forged(level, pairs...)), api.OK)
			says(t, r.SetRoot(0, uint64(level)+1), api.OK)
			want := api.OK
			if wide || level > 15 {
				want = api.ErrLost
			}
			says(t, b.agree(0), want)
		}
	}
	if took := time.Since(start); took > time.Minute {
		t.Errorf("%v", took)
	}
}

// tower: lays a map of as many levels as there may be, page by page, its keys rising by tens.
type tower struct {
	b    *bench
	last int
}

// key: the next one, or one a little higher.
func (w *tower) key(higher int) string {
	return long(90) + fmt.Sprintf("%06d", 10*w.last+higher)
}

func (w *tower) add(text string) int {
	w.b.t.Helper()
	page, e := w.b.rooms[0].Alloc()
	says(w.b.t, e, api.OK)
	says(w.b.t, w.b.rooms[0].Write(page, text), api.OK)
	return page
}

// chain: of a leaf that is full, and pages above it with one below each.
func (w *tower) chain(level int) int {
	w.b.t.Helper()
	var pairs []api.Pair
	for range 3 {
		pairs = append(pairs, api.Pair{Key: w.key(0), Val: long(56)})
		w.last++
	}
	page := w.add(forged(0, pairs...))
	for above := 1; above <= level; above++ {
		page = w.add(forged(above, api.Pair{Val: numberOf(page)}))
	}
	return page
}

// wide: a page that is full, with chains below, and a given page ahead of them.
func (w *tower) wide(level, first int, second func(level int) int) int {
	w.b.t.Helper()
	pairs := []api.Pair{{Val: numberOf(first)}}
	for n := range 5 {
		key, below := w.key(0), w.chain
		if n == 0 {
			below = second
		}
		pairs = append(pairs, api.Pair{Key: key, Val: numberOf(below(level - 1))})
	}
	return w.add(forged(level, pairs...))
}

// P9.1, P0: a map of as many levels as there may be, each page on the way to its first key full, and each one beside it: a Put that would need a level more is refused by ErrLost, and nothing has changed.
func TestForgedHeight(t *testing.T) {
	b := laid(t, 1500, 1)
	b.lazy = true
	w := &tower{b: b}
	page, between := w.chain(0), w.key(-5)
	for level := 1; level < 16; level++ {
		page = w.wide(level, page, func(level int) int {
			if level == 0 {
				return w.chain(0)
			}
			return w.wide(level, w.chain(level-1), w.chain)
		})
	}
	says(t, b.rooms[0].SetRoot(0, uint64(page)+1), api.OK)
	m := b.tree(0, 0)
	count, e := m.Count()
	tells(t, count, e, 3*(1+5+14*(4+6)), api.OK)
	b.lazy = false
	mark, before := b.change.Mark(), b.allHomes()
	says(t, m.Put(between, long(56)), api.ErrLost)
	b.looked(mark, before)
	says(t, m.Put("", ""), api.OK)
}

// greatRoom: one of as many pages as a disk may have.
func greatRoom(t *testing.T) *room.Room {
	t.Helper()
	d, e := sector.New(api.MaxSectors)
	says(t, e, api.OK)
	l, e := wal.Open(d, 4)
	says(t, e, api.OK)
	return room.Of(tx.Begin(l))
}

// P0, P9.2: a room as great as a disk may be, full of one map: that ends soon, also where few pairs are asked of many.
func TestEndsSoon(t *testing.T) {
	start := time.Now()
	r := greatRoom(t)
	m := tree.At(r, 0)
	source, n := rand.New(rand.NewSource(1)), 0
	key := make([]byte, 96)
	for {
		source.Read(key)
		e := m.Put(string(key), long(56))
		if e == api.ErrFull {
			break
		}
		says(t, e, api.OK)
		n++
	}
	used, e := r.Used()
	says(t, e, api.OK)
	if used < r.Pages()-3-2*16 || used > n {
		t.Fatalf("%d pairs in %d of %d pages", n, used, r.Pages())
	}
	check, e := m.Check()
	tells(t, check, e, used, api.OK)
	count, e := m.Count()
	tells(t, count, e, n, api.OK)
	all, e := m.Scan("", "", math.MaxInt)
	says(t, e, api.OK)
	for k, p := range all[:20000] {
		gets(t, m, p.Key, p.Val, true, api.OK)
		some, e := m.Scan(p.Key, "", 1)
		lists(t, some, e, all[k:k+1], api.OK)
		some, e = m.Scan(p.Key, p.Key+"\x00", 9)
		lists(t, some, e, all[k:k+1], api.OK)
		some, e = m.Scan(all[n-1-k].Key, "", 2)
		lists(t, some, e, all[n-1-k:min(n, n+1-k)], api.OK)
		if k > 0 && p.Key <= all[k-1].Key {
			t.Fatal("keys that don't rise")
		}
		was, e := m.Delete(p.Key)
		tells(t, was, e, true, api.OK)
	}
	count, e = m.Count()
	tells(t, count, e, n-20000, api.OK)
	if took := time.Since(start); took > time.Minute {
		t.Errorf("%v", took)
	}
}
