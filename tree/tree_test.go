package tree_test

import (
	"fmt"
	"maps"
	"math"
	"math/rand"
	"slices"
	"strings"
	"testing"
	"unsafe"

	"cooperage/api"
	"cooperage/blob"
	"cooperage/room"
	"cooperage/tree"
	"cooperage/tx"
	"cooperage/wal"
)

// limits: of Scan, at the edges of n pairs.
func limits(n int) []int {
	return []int{math.MinInt, -2, -1, 0, 1, 2, n - 1, n, n + 1, 2*n + 100, math.MaxInt}
}

// numbered: keys of some bytes each, rising.
func numbered(n, size int) []string {
	var list []string
	for k := range n {
		key := fmt.Sprintf("%06d", k)
		list = append(list, strings.Repeat("n", max(0, size-6))+key)
	}
	return list
}

// inOrder: a list in an order: rising, falling, or drawn.
func inOrder(list []string, order string) []string {
	list = slices.Clone(list)
	switch order {
	case "falling":
		slices.Reverse(list)
	case "drawn":
		rand.New(rand.NewSource(5)).Shuffle(len(list), func(i, k int) { list[i], list[k] = list[k], list[i] })
	}
	return list
}

var orders = []string{"rising", "falling", "drawn"}

// P9.1: step by step, in numbers, beside the model.
func TestStepByStep(t *testing.T) {
	b := laid(t, 12, 1)
	r := b.rooms[0]
	m := tree.At(r, 7)
	gets(t, m, "a", "", false, api.OK)
	was, e := m.Delete("a")
	tells(t, was, e, false, api.OK)
	says(t, m.Put("b", "2"), api.OK)
	says(t, m.Put("a", "1"), api.OK)
	says(t, m.Put("c", ""), api.OK)
	says(t, m.Put("b", "3"), api.OK)
	gets(t, m, "a", "1", true, api.OK)
	gets(t, m, "b", "3", true, api.OK)
	gets(t, m, "c", "", true, api.OK)
	gets(t, m, "", "", false, api.OK)
	count, e := m.Count()
	tells(t, count, e, 3, api.OK)
	list, e := m.Scan("a", "c", 9)
	lists(t, list, e, []api.Pair{{Key: "a", Val: "1"}, {Key: "b", Val: "3"}}, api.OK)
	list, e = m.Scan("aa", "", 1)
	lists(t, list, e, []api.Pair{{Key: "b", Val: "3"}}, api.OK)
	was, e = m.Delete("b")
	tells(t, was, e, true, api.OK)
	was, e = m.Delete("b")
	tells(t, was, e, false, api.OK)
	gets(t, m, "b", "", false, api.OK)
	used, e := r.Used()
	says(t, e, api.OK)
	check, e := m.Check()
	tells(t, check, e, used, api.OK)
	for _, key := range []string{"a", "c"} {
		was, e = m.Delete(key)
		tells(t, was, e, true, api.OK)
	}
	used, e = r.Used()
	tells(t, used, e, 0, api.OK)
	root, e := r.Root(7)
	tells(t, root, e, 0, api.OK)
}

// The document's example.
func TestExample(t *testing.T) {
	m := tree.At(laid(t, 40, 1).rooms[0], 0)
	says(t, m.Put("b", "2"), api.OK)
	says(t, m.Put("a", "1"), api.OK)
	list, e := m.Scan("", "", 9)
	lists(t, list, e, []api.Pair{{Key: "a", Val: "1"}, {Key: "b", Val: "2"}}, api.OK)
}

// P9.1: keys and values of each length at the edges that the document names, and past them.
func TestLengths(t *testing.T) {
	b := laid(t, 60, 1)
	for _, first := range []string{"l", "\x00", "\xff"} {
		for _, n := range []int{0, 1, 2, 48, 95, 96, 97, 98, 255, 256, 257, 512, 1000} {
			key := strings.Repeat(first, n)
			for _, size := range []int{56, 0, 1, 55, 57, 58, 255, 256, 257, 512, 1000} {
				b.put(0, 3, key, strings.Repeat(first, size))
			}
			b.scan(0, 3, key, "", 3)
			b.scan(0, 3, "", key, 3)
		}
	}
	b.commit()
	for _, first := range []string{"l", "\x00", "\xff"} {
		for _, n := range []int{0, 1, 48, 95, 96, 97, 257, 1000} {
			b.delete(0, 3, strings.Repeat(first, n))
		}
	}
}

// P9.1: each length of keys and of values, alone and with one more beside it.
func TestEachLength(t *testing.T) {
	b := laid(t, 300, 1)
	b.lazy = true
	for n := range 97 {
		for _, size := range []int{n * 56 / 96, 56 - n*56/96} {
			b.put(0, 1, long(n), strings.Repeat("v", size))
			b.put(0, 2, strings.Repeat("\x00", n), strings.Repeat("\xff", size))
			b.put(0, 3, strings.Repeat("\xff", n), strings.Repeat("\x00", size))
		}
	}
	b.lazy = false
	b.check()
}

// P9.1: keys that are one another's beginnings, and of bytes 0 and 255, put and taken away in each order.
func TestKeysThatBeginOneAnother(t *testing.T) {
	var keys []string
	for _, byteOf := range []string{"a", "\x00", "\xff"} {
		for _, n := range []int{1, 2, 3, 4, 30, 31, 50, 51, 80, 94, 95} {
			for _, end := range []string{"", "\x00", "\xff", "a"} {
				keys = append(keys, strings.Repeat(byteOf, n)+end)
			}
		}
	}
	keys = append(keys, "")
	slices.Sort(keys)
	keys = slices.Compact(keys)
	for _, order := range orders {
		for _, back := range orders {
			b := laid(t, 150, 1)
			for k, key := range inOrder(keys, order) {
				b.lazy = k%10 > 0
				b.put(0, 0, key, fmt.Sprint("value ", k))
			}
			for _, key := range keys {
				b.scan(0, 0, key, key+"\x00", 2)
				b.scan(0, 0, key+"\x00", "", 1)
			}
			for k, key := range inOrder(keys, back) {
				b.lazy = k%10 > 0
				b.delete(0, 0, key)
				b.delete(0, 0, key)
			}
		}
	}
}

// What a call puts is little, since all of it must find room in the log's ring: a page for a pair that takes another one's room, and none for what changes nothing.
func TestPutsLittle(t *testing.T) {
	b := laid(t, 120, 1)
	b.lazy = true
	keys := numbered(100, 60)
	for _, key := range keys {
		b.put(0, 4, key, long(30))
	}
	for _, key := range keys {
		for val, want := range map[string]int{long(30): 0, strings.Repeat("k", 30): 1} {
			mark, puts := b.mark(0), b.change.Mark()
			b.put(0, 4, key, val)
			if got := b.change.Mark() - puts; got != want {
				t.Fatalf("%d puts, not %d", got, want)
			}
			b.back(0, mark)
		}
		mark, puts, free := b.mark(0), b.change.Mark(), b.free()
		b.delete(0, 4, key)
		if got := b.change.Mark() - puts; got != 1 && b.free() == free {
			t.Fatalf("%d puts of a Delete that leaves all pages", got)
		}
		b.back(0, mark)
	}
}

// P9.1, Put: of a key that is there, with the same value and with another one, longer and shorter, also where no page is free.
func TestPutOfAKeyThatIsThere(t *testing.T) {
	for _, size := range []int{6, 40, 96} {
		b := laid(t, 120, 1)
		b.lazy = true
		keys := numbered(100, size)
		for k, key := range keys {
			b.put(0, 4, key, long(k%57))
		}
		b.lazy = false
		b.check()
		for _, val := range []string{"", "a", long(56), "b", long(28)} {
			for k, key := range keys {
				b.lazy = k%25 > 0
				b.put(0, 4, key, val)
				b.put(0, 4, key, val)
				b.put(0, 4, key, long(57))
			}
		}
		b.leave(0)
		for k, key := range inOrder(keys, "drawn") {
			b.lazy = k%25 > 0
			says(t, b.put(0, 4, key, long(28)), api.OK)
			says(t, b.put(0, 4, key, ""), api.OK)
		}
	}
}

// P9.1, Delete: of keys that aren't there, of the last one, of all in each order, put in each order; nothing is left then.
func TestDeleteInEachOrder(t *testing.T) {
	for _, n := range []int{1, 2, 3, 4, 5, 20, 150} {
		for _, size := range []int{6, 96} {
			for _, order := range orders {
				for _, back := range orders {
					b := laid(t, n+20, 1)
					b.lazy = n > 5
					for _, key := range inOrder(numbered(n, size), order) {
						b.put(0, 2, key, long(50))
					}
					for _, key := range inOrder(numbered(n, size), back) {
						b.delete(0, 2, key+"x")
						b.delete(0, 2, "")
						b.delete(0, 2, key)
						b.delete(0, 2, key)
					}
					used, e := b.rooms[0].Used()
					tells(t, used, e, 0, api.OK)
				}
			}
		}
	}
}

// P9.1, Scan: of from and to at keys that are there and that aren't, below and above all, "", from above to, with limits at all edges.
func TestScan(t *testing.T) {
	for _, n := range []int{0, 1, 2, 5, 120} {
		b := laid(t, 100, 1)
		b.lazy = true
		keys := numbered(n, 20)
		for k, key := range inOrder(keys, "drawn") {
			b.put(0, 9, key, long(k%57))
		}
		ends := []string{"", "\x00", "a", "\xff", strings.Repeat("\xff", 97), "n", strings.Repeat("n", 14)}
		for _, k := range []int{0, 1, 2, 3, n / 3, n / 2, n - 2, n - 1} {
			if k >= 0 && k < n {
				ends = append(ends, keys[k], keys[k]+"\x00", keys[k][:19], keys[k]+long(90))
			}
		}
		for _, from := range ends {
			for _, to := range ends {
				between := b.want.scan(9, from, to, math.MaxInt)
				for _, limit := range limits(len(between)) {
					b.scan(0, 9, from, to, limit)
				}
			}
		}
	}
}

// P9.1, Scan: each limit, from each key on.
func TestScanFromEachKey(t *testing.T) {
	b := laid(t, 60, 1)
	b.lazy = true
	keys := numbered(40, 90)
	for _, key := range keys {
		b.put(0, 0, key, key[80:])
	}
	for _, key := range keys {
		for limit := range 42 {
			b.scan(0, 0, key, "", limit)
			b.scan(0, 0, "", key, limit)
		}
		for _, to := range keys {
			b.scan(0, 0, key, to, 100)
		}
	}
}

// P9.1: places that there are and others; a map of one place isn't at another one.
func TestPlaces(t *testing.T) {
	b := laid(t, 80, 1)
	for _, place := range places() {
		b.delete(0, place, "key")
		b.put(0, place, "key", fmt.Sprint("of place ", place))
		b.put(0, place, long(97), "")
		b.scan(0, place, "", "", 3)
		b.delete(0, place, "kex")
	}
	b.commit()
	for _, place := range places() {
		b.delete(0, place, "key")
		b.scan(0, place, "", "", 3)
		b.delete(0, place, "key")
	}
	for _, place := range []int{0, 15} {
		for _, key := range numbered(12, 96) {
			b.put(0, place, key, long(56))
			b.scan(0, 15-place, "", "", 30)
			b.scan(0, 7, "", "", 30)
		}
	}
}

// P9.1: maps at several places of one room, beside one another: what is done with one leaves the others.
func TestMapsBesideOneAnother(t *testing.T) {
	for _, several := range [][]int{{3}, {0, 15}, {4, 5, 6}, {0, 1, 2, 3, 4, 5, 6, 7, 8, 9, 10, 11, 12, 13, 14, 15}} {
		source := rand.New(rand.NewSource(int64(len(several))))
		b := laid(t, 250, 1)
		for n := range 400 {
			b.lazy = n%25 > 0
			place, key := several[source.Intn(len(several))], drawnKey(source)
			if source.Intn(3) == 0 {
				b.delete(0, place, key)
			} else {
				b.put(0, place, key, long(source.Intn(57)))
			}
		}
		for _, place := range several {
			for _, key := range b.want.keys(place) {
				b.delete(0, place, key)
			}
		}
		used, e := b.rooms[0].Used()
		tells(t, used, e, 0, api.OK)
	}
}

// lost: that each call of the map at a place answers ErrLost, ahead of what else might be wrong, and changes nothing.
func (b *bench) lost(place int) {
	b.t.Helper()
	mark, before, m := b.change.Mark(), b.allHomes(), b.tree(0, place)
	for _, key := range []string{"", "a", long(96), long(97)} {
		gets(b.t, m, key, "", false, api.ErrLost)
		was, e := m.Delete(key)
		tells(b.t, was, e, false, api.ErrLost)
		says(b.t, m.Put(key, ""), api.ErrLost)
		says(b.t, m.Put(key, long(57)), api.ErrLost)
		for _, limit := range []int{-1, 0, 1, 100} {
			list, e := m.Scan(key, "", limit)
			lists(b.t, list, e, nil, api.ErrLost)
			list, e = m.Scan("b", key, limit)
			lists(b.t, list, e, nil, api.ErrLost)
		}
	}
	count, e := m.Count()
	tells(b.t, count, e, 0, api.ErrLost)
	check, e := m.Check()
	tells(b.t, check, e, 0, api.ErrLost)
	pages, e := m.Pages()
	lists(b.t, pages, e, nil, api.ErrLost)
	if b.change.Mark() != mark || !slices.Equal(before, b.allHomes()) {
		b.t.Fatal("what was refused has changed something")
	}
}

// P9.1: a place whose number is no page, a page that is free, one of noughts, and one whose bytes are none of a map's.
func TestPlacesWithoutAMap(t *testing.T) {
	b := laid(t, 20, 1)
	r := b.rooms[0]
	b.put(0, 3, "there", "is a map")
	b.take("")
	for _, number := range []uint64{21, 22, 100, 257, 1 << 16, 1<<16 + 1, 1 << 32, 1<<32 + 1, 1 << 63, 1<<63 + 1, 1<<64 - 20, 1<<64 - 1} {
		says(t, r.SetRoot(5, number), api.OK)
		b.lost(5)
	}
	for page := range 20 {
		has, e := r.Has(page)
		says(t, e, api.OK)
		if page != 0 || !has {
			says(t, r.SetRoot(5, uint64(page)+1), api.OK)
			b.lost(5)
		}
	}
	bytes := []string{"", "\x00", "a", "\x01", "\xff", strings.Repeat("\xff", 512), long(512), "\xc0", "\xc0\x01", "\xc0\x00", "\xc0\x01\x61", strings.Repeat("\xc0", 512)}
	for _, s := range bytes {
		page, e := r.Alloc()
		says(t, e, api.OK)
		says(t, r.Write(page, s), api.OK)
		says(t, r.SetRoot(5, uint64(page)+1), api.OK)
		if s == "\xc0\x01" {
			// A page of a single pair of an empty key and an empty value is a map's.
			gets(t, b.tree(0, 5), "", "", true, api.OK)
		} else {
			b.lost(5)
		}
		says(t, r.Free(page), api.OK)
	}
	page, e := blob.Put(r, strings.Repeat("blob", 300))
	says(t, e, api.OK)
	pages, e := blob.List(r, page)
	says(t, e, api.OK)
	for _, page := range pages {
		says(t, r.SetRoot(5, uint64(page)+1), api.OK)
		b.lost(5)
	}
	says(t, r.SetRoot(5, 0), api.OK)
	says(t, blob.Drop(r, page), api.OK)
	mine, e := b.tree(0, 3).Pages()
	says(t, e, api.OK)
	if _, e := blob.Get(r, mine[0]); e != api.ErrLost {
		t.Fatalf("a map's page is a blob: %d", e)
	}
	b.check()
}

// R1: which error comes first where several would fit: ErrDown, then ErrRange, then ErrLost, then ErrBig, then ErrFull.
func TestWhichErrorComesFirst(t *testing.T) {
	b := laid(t, 1, 1)
	b.take("")
	for _, place := range []int{-1, 16} {
		says(t, b.put(0, place, long(97), ""), api.ErrRange)
		says(t, b.put(0, place, "a", ""), api.ErrRange)
	}
	says(t, b.put(0, 0, long(97), ""), api.ErrBig)
	says(t, b.put(0, 0, "", long(57)), api.ErrBig)
	says(t, b.put(0, 0, "a", ""), api.ErrFull)
	says(t, b.rooms[0].SetRoot(0, 9), api.OK)
	b.lost(0)
	b.forget()
	b.bringDown()
	for _, place := range places() {
		for _, key := range []string{"", "a", long(97)} {
			b.put(0, place, key, "")
			b.put(0, place, key, long(57))
			b.delete(0, place, key)
			b.scan(0, place, key, "", -1)
			b.scan(0, place, key, "", 9)
		}
	}
}

// P9.1, Put and Delete: where no page is free, in a room without a page, and in one of one page.
func TestSmallRooms(t *testing.T) {
	b := laid(t, 0, 1)
	says(t, b.put(0, 0, "a", ""), api.ErrFull)
	says(t, b.put(0, 0, long(97), ""), api.ErrBig)
	b.delete(0, 0, "a")
	b.scan(0, 0, "", "", 9)
	b = laid(t, 1, 1)
	says(t, b.put(0, 0, "a", "1"), api.OK)
	says(t, b.put(0, 1, "a", "1"), api.ErrFull)
	says(t, b.put(0, 0, "b", "2"), api.OK)
	for _, key := range numbered(9, 96) {
		b.put(0, 0, key, long(56))
	}
	for _, key := range b.want.keys(0) {
		b.delete(0, 0, key)
	}
	says(t, b.put(0, 1, "a", "1"), api.OK)
}

// filled: two rooms of 200 pages, with maps at places 1 and 2, in the log and in the change.
func filled(t *testing.T) *bench {
	t.Helper()
	b := laid(t, 200, 2)
	b.lazy = true
	for _, key := range numbered(60, 60) {
		b.put(0, 1, key, long(40))
	}
	b.commit()
	for _, key := range numbered(9, 96) {
		b.put(1, 2, key, long(56))
	}
	b.take("other")
	b.lazy = false
	b.check()
	return b
}

// calls: of a room's maps, as filled lays them.
var calls = map[string]func(b *bench){
	"Put":           func(b *bench) { b.put(0, 1, "new", "n"); b.put(1, 3, "new", "n") },
	"Put, replaced": func(b *bench) { b.put(0, 1, numbered(60, 60)[7], "n"); b.put(1, 2, numbered(9, 96)[3], "n") },
	"Put, split": func(b *bench) {
		for _, key := range numbered(12, 80) {
			b.put(0, 1, key, long(56))
			b.put(1, 2, key, long(56))
		}
	},
	"Put, refused": func(b *bench) { b.put(0, 1, long(97), ""); b.put(0, -1, "a", "") },
	"Delete":       func(b *bench) { b.delete(0, 1, numbered(60, 60)[7]); b.delete(1, 1, "none") },
	"Delete, joined": func(b *bench) {
		for _, key := range numbered(60, 60)[5:40] {
			b.delete(1, 1, key)
		}
	},
	"Delete all": func(b *bench) {
		for _, key := range b.want.keys(2) {
			b.delete(0, 2, key)
		}
	},
	"Get, Scan": func(b *bench) { b.scan(0, 1, "", "", 20); b.scan(1, 2, "n", "", 1); b.check() },
}

// P9.1: behind Mark and Back, behind Drop and behind Commit each call's change is gone, or is there.
func TestMarkAndBack(t *testing.T) {
	for name, call := range calls {
		t.Run(name, func(t *testing.T) {
			b := filled(t)
			for range 2 {
				mark, before := b.mark(0), b.allHomes()
				call(b)
				b.back(1, math.MaxInt)
				b.back(0, mark)
				if !slices.Equal(before, b.allHomes()) {
					t.Fatal("homes have changed")
				}
				call(b)
			}
			b.back(0, b.marks[1].mark)
			call(b)
			b.forget()
			call(b)
			b.back(0, -1)
			call(b)
			b.commit()
			b.reopen()
			call(b)
		})
	}
}

// P9.1: maps of two changes know nothing of one another ahead of Commit; one Tree tells what others have changed at its place.
func TestMapsOfTwoChanges(t *testing.T) {
	b := filled(t)
	b.commit()
	other := tree.At(room.Of(tx.Begin(b.log)), 1)
	early := tree.At(b.rooms[0], 1)
	late := tree.At(b.rooms[1], 1)
	key := numbered(60, 60)[30]
	b.put(1, 1, "new", "n")
	b.delete(0, 1, key)
	for _, m := range []*tree.Tree{early, late} {
		gets(t, m, "new", "n", true, api.OK)
		gets(t, m, key, "", false, api.OK)
		count, e := m.Count()
		tells(t, count, e, 60, api.OK)
	}
	gets(t, other, "new", "", false, api.OK)
	gets(t, other, key, long(40), true, api.OK)
	was, e := early.Delete("new")
	tells(t, was, e, true, api.OK)
	gets(t, late, "new", "", false, api.OK)
	says(t, late.Put(key, "again"), api.OK)
	gets(t, early, key, "again", true, api.OK)
	b.want.at(1)[key] = "again"
	delete(b.want.at(1), "new")
	b.check()
	b.commit()
	gets(t, tree.At(room.Of(tx.Begin(b.log)), 1), key, "again", true, api.OK)
}

// P9.1: of a room whose log has gone down each call answers ErrDown; opened again, what was committed is there, and nothing else.
func TestLogThatIsDown(t *testing.T) {
	for name, call := range calls {
		t.Run(name, func(t *testing.T) {
			b := filled(t)
			b.bringDown()
			call(b)
			b.back(0, 0)
			gets(t, tree.At(room.Of(tx.Begin(b.log)), 1), numbered(60, 60)[0], "", false, api.ErrDown)
			b.reopen()
			call(b)
		})
	}
}

// R2: a nil tree, a zero one, one of a nil room, and of rooms of changes and logs that are none: ErrDown, whatever the place.
func TestNil(t *testing.T) {
	none := map[string]*tree.Tree{"a nil tree": nil, "a zero tree": {}}
	for name, r := range map[string]*room.Room{
		"of a nil room":        nil,
		"of a zero room":       {},
		"of a nil change":      room.Of(nil),
		"of a zero change":     room.Of(&tx.Tx{}),
		"of one of a nil log":  room.Of(tx.Begin(nil)),
		"of one of a zero log": room.Of(tx.Begin(&wal.Log{})),
	} {
		for _, place := range []int{-1, 0, 15, 16} {
			none[fmt.Sprint(name, " at ", place)] = tree.At(r, place)
		}
	}
	for name, m := range none {
		t.Run(name, func(t *testing.T) {
			for _, key := range []string{"", "a", long(96), long(97)} {
				gets(t, m, key, "", false, api.ErrDown)
				says(t, m.Put(key, ""), api.ErrDown)
				says(t, m.Put(key, long(57)), api.ErrDown)
				was, e := m.Delete(key)
				tells(t, was, e, false, api.ErrDown)
				for _, limit := range []int{-1, 0, 9} {
					list, e := m.Scan(key, "", limit)
					lists(t, list, e, nil, api.ErrDown)
				}
			}
			count, e := m.Count()
			tells(t, count, e, 0, api.ErrDown)
			check, e := m.Check()
			tells(t, check, e, 0, api.ErrDown)
			pages, e := m.Pages()
			lists(t, pages, e, nil, api.ErrDown)
		})
	}
}

// spoil: whoever could write where a text stands would change nobody else's.
func spoil(s string) {
	for k := range len(s) {
		*(*byte)(unsafe.Add(unsafe.Pointer(unsafe.StringData(s)), k)) = 'y'
	}
}

// R4: what a call hands out or takes is shared with nothing.
func TestSharesNothing(t *testing.T) {
	b := laid(t, 60, 2)
	given := func(s string) string {
		bytes := []byte(s)
		return unsafe.String(unsafe.SliceData(bytes), len(bytes))
	}
	put := func() {
		for k, name := range numbered(40, 70) {
			key, val := given(name), given(long(k+1))
			says(t, b.tree(k%2, 6).Put(key, val), api.OK)
			b.want.at(6)[name] = long(k + 1)
			spoil(key)
			spoil(val)
		}
		b.check()
	}
	put()
	for _, commit := range []bool{false, true, false} {
		if commit {
			b.commit()
		}
		for k := range b.rooms {
			m := b.tree(k, 6)
			for name := range b.want.maps[6] {
				key := given(name)
				val, _, _ := m.Get(key)
				spoil(val)
				list, _ := m.Scan(key, "", 5)
				spoilPairs(list)
				spoil(key)
			}
			list, _ := m.Scan("", "", 100)
			spoilPairs(list)
			pages, _ := m.Pages()
			for k := range pages[:cap(pages)] {
				pages[:cap(pages)][k] = -7
			}
			b.check()
		}
		put()
		key := given(numbered(40, 70)[11])
		was, e := b.tree(0, 6).Delete(key)
		tells(t, was, e, true, api.OK)
		spoil(key)
		delete(b.want.at(6), numbered(40, 70)[11])
		b.check()
	}
}

// spoilPairs: that no two texts of a list share anything either.
func spoilPairs(list []api.Pair) {
	for k, p := range list {
		rest := slices.Clone(list[k+1:])
		for i := range rest {
			rest[i] = api.Pair{Key: strings.Clone(rest[i].Key), Val: strings.Clone(rest[i].Val)}
		}
		spoil(p.Key)
		spoil(p.Val)
		if !slices.Equal(rest, list[k+1:]) {
			panic("two pairs share what they hold")
		}
	}
	for k := range list[:cap(list)] {
		list[:cap(list)][k] = api.Pair{Key: "spoilt"}
	}
}

// R7: the same calls leave the same homes, by whichever rooms of the change, by one Tree or many, and whatever was done and taken back between.
func TestSameCallsSameHomes(t *testing.T) {
	homes := func(rooms int, between bool) []string {
		source := rand.New(rand.NewSource(3))
		b := laid(t, 120, rooms)
		b.lazy = true
		for n := range 300 {
			k := n % rooms
			if between {
				mark := b.mark(k)
				b.put(k, n%3, drawnKey(rand.New(rand.NewSource(int64(n)))), "between")
				b.back(k, mark)
			}
			if keys := b.want.keys(n % 3); n%4 == 3 {
				b.delete(k, n%3, keys[source.Intn(len(keys))])
			} else {
				b.put(k, n%3, drawnKey(source), long(source.Intn(57)))
			}
		}
		b.lazy = false
		b.check()
		return b.allHomes()
	}
	want := homes(1, false)
	for _, rooms := range []int{1, 2, 3} {
		for _, between := range []bool{false, true} {
			if got := homes(rooms, between); !slices.Equal(got, want) {
				t.Fatalf("with %d rooms: other homes", rooms)
			}
		}
	}
}

// P9.1, and P5.2 through it: a map is there, behind Open, as its last Commit left it, or as the one that was broken off would have.
func TestBrokenCommit(t *testing.T) {
	for fuel, done := 0, false; !done; fuel++ {
		b := laid(t, 20, 1)
		b.lazy = true
		for _, key := range numbered(12, 60) {
			b.put(0, 4, key, "older")
		}
		b.commit()
		for k, key := range numbered(16, 60) {
			if k%3 == 0 {
				b.delete(0, 4, key)
			} else {
				b.put(0, 4, key, "newer")
			}
		}
		b.disk.Fuel(fuel)
		done = b.change.Commit() == api.OK
		b.disk.Fuel(-1)
		b.disk.Fall(nil)
		l, e := wal.Open(b.disk, ring)
		says(t, e, api.OK)
		all, e := tree.At(room.Of(tx.Begin(l)), 4).Scan("", "", 100)
		says(t, e, api.OK)
		if slices.Equal(all, b.want.scan(4, "", "", 100)) {
			b.marks[0].was = b.want.copied()
		} else if done {
			t.Fatal("what was committed isn't there")
		}
		b.lazy = false
		b.reopen()
	}
}

// P9.1: a map from one change to the next, each committed, and opened again now and then.
func TestThroughCommits(t *testing.T) {
	b := laid(t, 150, 1)
	source := rand.New(rand.NewSource(8))
	b.lazy = true
	for n := range 300 {
		for range 1 + source.Intn(6) {
			key := drawnKey(source)
			if source.Intn(5) < 2 {
				b.delete(0, 1, key)
			} else {
				b.put(0, 1, key, long(source.Intn(57)))
			}
		}
		if b.commit(); n%10 == 0 {
			b.lazy = false
			b.reopen()
			b.lazy = true
		}
	}
	if len(slices.Collect(maps.Keys(b.want.maps[1]))) < 20 {
		t.Fatal("the drawn map has few keys")
	}
}
