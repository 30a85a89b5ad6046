package chunks_test

import (
	"fmt"
	"math"
	"slices"
	"strings"
	"testing"
	"unsafe"

	"cooperage/api"
	"cooperage/blob"
	"cooperage/chunks"
	"cooperage/room"
	"cooperage/tree"
	"cooperage/tx"
	"cooperage/wal"
)

// long: a text of n bytes.
func long(n int) string {
	return strings.Repeat("l", n)
}

// numbered: n texts of some bytes each.
func numbered(n, size int) []string {
	var list []string
	for k := range n {
		key := fmt.Sprintf("%06d", k)
		list = append(list, key+strings.Repeat("n", max(0, size-6)))
	}
	return list
}

// limits: of Merge and Reclaim, at the edges of n.
func limits(n int) []int {
	return []int{math.MinInt, math.MinInt32, -1, 0, 1, 2, n / 2, n - 1, n, n + 1, 2*n + 100, 1 << 32, math.MaxInt}
}

// wrongBy: what no count may change by.
func wrongBy() []int {
	return []int{0, 2, -2, 3, 255, 256, 257, -255, -257, 1 << 32, 1<<32 + 1, math.MinInt, math.MaxInt}
}

// nameOf: the name of the n-th chunk of a text's fingerprint.
func (b *bench) nameOf(text string, n int) string {
	return b.print(text) + string([]byte{byte(n)})
}

// keep: puts texts, and tells their names.
func (b *bench) keep(texts ...string) []string {
	b.t.Helper()
	var ids []string
	for _, text := range texts {
		id, _, _ := b.ofText(text)
		says(b.t, b.put(0, text), api.OK)
		ids = append(ids, id)
	}
	return ids
}

// P11.1: the document's examples, and step by step, in numbers, beside the model.
func TestStepByStep(t *testing.T) {
	b := laid(t, 40, 1)
	s := chunks.At(b.rooms[0])
	a := fingerprint("a") + "\x00"
	puts(t, s, "a", a, true, api.OK)
	puts(t, s, "a", a, false, api.OK)
	counts(t, s, a, 0, 0, api.OK)
	says(t, s.Add(a, 1), api.OK)
	counts(t, s, a, 0, 1, api.OK)
	n, e := s.Reclaim(9)
	tells(t, n, e, 0, api.OK)
	n, e = s.Merge(9)
	tells(t, n, e, 1, api.OK)
	counts(t, s, a, 1, 0, api.OK)
	says(t, s.Add(a, -1), api.OK)
	says(t, s.Apply(a, 1), api.OK)
	counts(t, s, a, 2, -1, api.OK)
	n, e = s.Waits()
	tells(t, n, e, 1, api.OK)
	says(t, s.Apply(a, -1), api.OK)
	n, e = s.Merge(1)
	tells(t, n, e, 1, api.OK)
	counts(t, s, a, 0, 0, api.OK)
	puts(t, s, "b", fingerprint("b")+"\x00", true, api.OK)
	all, e := s.All()
	lists(t, all, e, []api.Chunk{{ID: fingerprint("b") + "\x00", Len: 1}, {ID: a, Len: 1}}, api.OK)
	n, e = s.Reclaim(1)
	tells(t, n, e, 1, api.OK)
	all, e = s.All()
	lists(t, all, e, []api.Chunk{{ID: a, Len: 1}}, api.OK)
	text, e := s.Get(a)
	tells(t, text, e, "a", api.OK)
	n, e = s.Reclaim(1)
	tells(t, n, e, 1, api.OK)
	text, e = s.Get(a)
	tells(t, text, e, "", api.ErrLost)
	used, e := b.rooms[0].Used()
	tells(t, used, e, 0, api.OK)
}

// P11.1, Put and Get: texts of each length from none to past the greatest, of letters, of noughts, of the byte 255, put twice, in one store.
func TestEachLength(t *testing.T) {
	b := laid(t, 600, 1)
	b.lazy = true
	for n := range 140 {
		for _, letter := range []string{"t", "\x00", "\xff"} {
			text := strings.Repeat(letter, n)
			b.put(0, text)
			b.put(0, text)
		}
	}
	b.lazy = false
	b.check()
	if len(b.want.chunks) != 3*128 {
		t.Fatalf("%d chunks", len(b.want.chunks))
	}
	b.commit()
	b.reopen()
	b.rest()
}

// P11.1, Put: at the edges that the document names, each in a store of its own: no byte, one, 128, 129, and far more.
func TestLengthsAtEdges(t *testing.T) {
	for n, want := range map[int]api.Errno{0: api.ErrArg, 1: api.OK, 2: api.OK, 127: api.OK, 128: api.OK, 129: api.ErrArg, 256: api.ErrArg, 131073: api.ErrArg} {
		b := laid(t, 4, 1)
		says(t, b.put(0, long(n)), want)
		says(t, b.put(0, long(n)), want)
		if text, e := b.store(0).Get(fingerprint(long(n)) + "\x00"); want == api.OK {
			tells(t, text, e, long(n), api.OK)
		} else {
			tells(t, text, e, "", api.ErrLost)
		}
	}
}

// P11.2: texts that differ in one byte, in their last one, or in one more, are chunks of their own.
func TestTextsThatDifferLittle(t *testing.T) {
	b := laid(t, 900, 1)
	b.lazy = true
	text := long(128)
	b.put(0, text)
	for k := range 128 {
		for _, letter := range []string{"m", "\x00", "\xec"} {
			b.put(0, text[:k]+letter+text[k+1:])
		}
		b.put(0, text[:k])
	}
	b.lazy = false
	b.check()
	if len(b.want.chunks) != 1+3*128+127 {
		t.Fatalf("%d chunks", len(b.want.chunks))
	}
	b.rest()
}

// P11.1, Put: a text again when its chunk was given up: it is a new one, of the same name, and count 0.
func TestPutAgain(t *testing.T) {
	b := laid(t, 20, 1)
	for _, commit := range []bool{false, true, false, true} {
		id := b.keep("again")[0]
		b.add(0, id, 1)
		b.merge(0, 1)
		b.put(0, "again")
		counts(t, b.store(0), id, 1, 0, api.OK)
		b.apply(0, id, -1)
		b.put(0, "again")
		b.reclaim(0, 1)
		if commit {
			b.commit()
		}
		puts(t, b.store(0), "again", id, true, api.OK)
		b.want.chunks[id] = kept{"again", 0}
		counts(t, b.store(0), id, 0, 0, api.OK)
		b.reclaim(0, 1)
		if len(b.want.chunks) > 0 {
			t.Fatal("it is there still")
		}
	}
}

// P11.1, Add and Apply: by 1 and -1, and by what isn't right, of chunks there are and of names that are none.
func TestAddAndApply(t *testing.T) {
	b := laid(t, 30, 1)
	ids := b.keep("a", "b", "c")
	for _, id := range append(b.noNames(), ids...) {
		for _, by := range append(wrongBy(), 1, -1) {
			b.add(0, id, by)
			b.apply(0, id, by)
		}
	}
	for _, id := range ids {
		counts(t, b.store(0), id, 0, 0, api.OK)
		b.add(0, id, 1)
		b.apply(0, id, -1)
		counts(t, b.store(0), id, -1, 1, api.OK)
	}
	b.rest()
}

// P11.1, P11.3: a count below 0: it stands, and comes up again; a chunk of such a count is given up, if the log has no entry of it.
func TestCountsBelowZero(t *testing.T) {
	b := laid(t, 30, 1)
	ids := b.keep("down", "up", "both")
	for range 300 {
		b.apply(0, ids[0], -1)
		b.apply(0, ids[1], -1)
	}
	for range 301 {
		b.apply(0, ids[1], 1)
	}
	for range 3 {
		b.add(0, ids[2], -1)
	}
	b.merge(0, 2)
	counts(t, b.store(0), ids[0], -300, 0, api.OK)
	counts(t, b.store(0), ids[1], 1, 0, api.OK)
	counts(t, b.store(0), ids[2], -2, -1, api.OK)
	b.commit()
	b.reclaim(0, 9)
	if len(b.want.chunks) != 2 {
		t.Fatalf("%d chunks", len(b.want.chunks))
	}
	b.put(0, "down")
	counts(t, b.store(0), ids[0], 0, 0, api.OK)
	b.rest()
}

// P11.1, Merge: with each limit, of an empty log, of one entry, and of many, of one chunk or of several.
func TestMergeByLimits(t *testing.T) {
	for _, n := range []int{0, 1, 2, 17, 18, 19, 36, 37, 100} {
		for _, several := range []int{1, 3} {
			b := laid(t, 60, 1)
			ids := b.keep(numbered(several, 20)...)
			for k := range n {
				b.add(0, ids[k%several], []int{1, 1, -1, 1}[k%4])
			}
			b.commit()
			for _, limit := range limits(n) {
				mark := b.mark(0)
				b.merge(0, limit)
				b.merge(0, limit)
				b.merge(0, math.MaxInt)
				b.back(0, mark)
			}
			for range n + 1 {
				b.merge(0, 1)
			}
			b.merge(0, 1)
			for _, id := range ids {
				b.apply(0, id, -1)
			}
			b.rest()
		}
	}
}

// P11.1, Merge: entries are merged in the order in which they were added: of a few chunks, each step by each limit, with entries added between.
func TestMergeInOrder(t *testing.T) {
	for limit := 1; limit < 45; limit += 4 {
		b := laid(t, 60, 1)
		b.lazy = true
		ids := b.keep(numbered(7, 30)...)
		slices.Reverse(ids)
		for k := range 180 {
			b.add(0, ids[k*k%7], []int{1, -1}[k%5%2])
			if k%limit == limit-1 {
				b.lazy = false
				b.merge(0, limit*2/3)
				b.lazy = true
			}
		}
		for len(b.want.log) > 0 {
			b.merge(0, limit)
		}
		b.merge(0, limit)
		b.add(0, ids[3], 1)
		b.merge(0, limit)
		b.lazy = false
		b.rest()
	}
}

// P11.1, Reclaim: with each limit; the least names first; none with a count above 0, and none of which the log has an entry.
func TestReclaimByLimits(t *testing.T) {
	b := laid(t, 80, 1)
	ids := b.keep(numbered(24, 9)...)
	for k, id := range ids {
		switch k % 6 {
		case 0:
			b.apply(0, id, 1)
		case 1:
			b.apply(0, id, -1)
		case 2:
			b.add(0, id, 1)
		case 3:
			b.add(0, id, 1)
			b.add(0, id, -1)
		}
	}
	b.commit()
	if n := len(b.want.reclaimable()); n != 12 {
		t.Fatalf("%d chunks, not 12, may be given up", n)
	}
	for _, limit := range limits(12) {
		mark := b.mark(0)
		b.reclaim(0, limit)
		b.reclaim(0, limit)
		b.merge(0, 6)
		b.reclaim(0, limit)
		b.rest()
		b.back(0, mark)
	}
	for range 13 {
		b.reclaim(0, 1)
	}
	b.rest()
}

// P11.1, Reclaim: where the log has an entry of a chunk whose count is 0, it stays till that is merged: the first entry or the last one, by 1, by -1, or both.
func TestReclaimWithEntries(t *testing.T) {
	for _, by := range [][]int{{1}, {-1}, {1, -1}, {-1, 1}, {1, 1, -1, -1}} {
		for _, ahead := range []int{0, 1, 40} {
			b := laid(t, 60, 1)
			ids := b.keep("stays", "other")
			b.apply(0, ids[1], 1)
			for range ahead {
				b.add(0, ids[1], 1)
			}
			for _, by := range by {
				b.add(0, ids[0], by)
			}
			for range ahead {
				b.add(0, ids[1], -1)
			}
			for len(b.want.log) > 0 {
				b.reclaim(0, 9)
				b.merge(0, 1)
			}
			b.reclaim(0, 9)
			b.rest()
		}
	}
}

// P11.3: however the log is merged, count and pending one together are what Adds and Applies came to.
func TestMergeChangesNoSum(t *testing.T) {
	for _, limit := range []int{1, 2, 5, 17, 18, 19, 50} {
		b := laid(t, 80, 1)
		b.lazy = true
		ids, sums := b.keep(numbered(10, 40)...), map[string]int64{}
		for k := range 400 {
			id, by := ids[k*7%10], []int{1, -1}[k*k%3%2]
			if k%9 == 0 {
				b.apply(0, id, by)
			} else {
				b.add(0, id, by)
			}
			sums[id] += int64(by)
			if k%11 == 10 {
				b.merge(0, limit)
			}
			for _, id := range ids {
				count, pending, e := b.store(0).Count(id)
				tells(t, count+pending, e, sums[id], api.OK)
			}
		}
		b.lazy = false
		b.rest()
	}
}

// P11.2: several texts of one fingerprint have names with 0, 1 and so on behind it, each its own; the least free one is taken.
func TestOneFingerprint(t *testing.T) {
	for _, print := range []func(string) string{alike, fewPrints} {
		b := laid(t, 60, 1)
		b.print = print
		var ids []string
		for n := range 12 {
			ids = append(ids, b.keep(strings.Repeat("p", 1+n))...)
		}
		for n, id := range ids {
			for range n + 1 {
				b.add(0, id, 1)
			}
			b.apply(0, id, -1)
		}
		b.commit()
		b.merge(0, 30)
		b.merge(0, 100)
		for _, n := range []int{5, 0, 7} {
			for range n {
				b.apply(0, ids[n], -1)
			}
			b.reclaim(0, 100)
			b.put(0, strings.Repeat("p", 1+n))
			b.put(0, strings.Repeat("q", 1+n))
			b.put(0, "x"+strings.Repeat("p", n))
			b.put(0, "")
		}
		b.rest()
	}
}

// P11.2, Put: names of one fingerprint given up among others, each alone and several: the least one that is free is taken next.
func TestLeastNameIsTaken(t *testing.T) {
	b := laid(t, 60, 1)
	b.print = alike
	ids := b.keep(numbered(6, 10)...)
	for set := range 1 << 6 {
		mark := b.mark(0)
		for k, id := range ids {
			if set>>k&1 == 0 {
				b.apply(0, id, 1)
			}
		}
		b.reclaim(0, 9)
		least := 0
		for set>>least&1 == 0 && least < 6 {
			least++
		}
		puts(t, b.store(0), "new one", b.nameOf("", least), true, api.OK)
		b.back(0, mark)
	}
}

// P11.2, Put: all 256 names of a fingerprint taken: ErrFull, and nothing has changed, however much room there is; a text that is there is told, and one more is put as soon as one is given up.
func TestAllNamesTaken(t *testing.T) {
	b := laid(t, 600, 1)
	b.print, b.lazy = alike, true
	ids := b.keep(numbered(256, 12)...)
	b.lazy = false
	for _, text := range []string{"one more", "x", long(128)} {
		puts(t, b.store(0), text, "", false, api.ErrFull)
		says(t, b.put(0, text), api.ErrFull)
	}
	says(t, b.put(0, ""), api.ErrArg)
	says(t, b.put(0, numbered(256, 12)[255]), api.OK)
	b.lazy = true
	for k, id := range ids {
		b.apply(0, id, 1)
		if k%100 == 99 {
			b.add(0, id, 1)
		}
	}
	b.commit()
	for _, k := range []int{200, 0, 255, 3} {
		b.apply(0, ids[k], -1)
		b.reclaim(0, 9)
		puts(t, b.store(0), "in its stead", ids[k], true, api.OK)
		b.want.chunks[ids[k]] = kept{"in its stead", 0}
		says(t, b.put(0, "one more"), api.ErrFull)
		b.reclaim(0, 9)
		b.put(0, numbered(256, 12)[k])
		b.apply(0, ids[k], 1)
	}
	b.lazy = false
	b.rest()
}

// P11.2: a chunk that stands under the name of another text's fingerprint isn't told for that text, nor its name given to it. (The pair of a chunk is put under another name too, so that this is so of the document's fingerprints.)
func TestNameOfAnotherText(t *testing.T) {
	b := laid(t, 1000, 1)
	s := b.store(0)
	puts(t, s, "mine", fingerprint("mine")+"\x00", true, api.OK)
	inMap := tree.At(b.rooms[0], 0)
	val, there, e := inMap.Get(fingerprint("mine") + "\x00")
	if !there || e != api.OK {
		t.Fatal(there, e)
	}
	for number := range 256 {
		says(t, inMap.Put(fingerprint("yours")+string([]byte{byte(number)}), val), api.OK)
		if number%51 > 0 && number < 250 {
			continue
		}
		want, mark := fingerprint("yours")+string([]byte{byte(number + 1)}), s.Mark()
		if number == 255 {
			puts(t, s, "yours", "", false, api.ErrFull)
			continue
		}
		puts(t, s, "yours", want, true, api.OK)
		puts(t, s, "yours", want, false, api.OK)
		text, e := s.Get(want)
		tells(t, text, e, "yours", api.OK)
		text, e = s.Get(fingerprint("yours") + "\x00")
		tells(t, text, e, "mine", api.OK)
		s.Back(mark)
	}
}

// P11.2, Put: of several chunks with a text, where somebody else had it so, the one of the least name is told.
func TestSeveralWithOneText(t *testing.T) {
	b := laid(t, 30, 1)
	b.print = alike
	s := b.store(0)
	puts(t, s, "first", b.nameOf("", 0), true, api.OK)
	puts(t, s, "text", b.nameOf("", 1), true, api.OK)
	inMap := tree.At(b.rooms[0], 0)
	val, _, e := inMap.Get(b.nameOf("", 1))
	says(t, e, api.OK)
	for _, number := range []int{9, 4, 255} {
		page, e := blob.Put(b.rooms[0], "text")
		says(t, e, api.OK)
		says(t, inMap.Put(b.nameOf("", number), val[:2]+string([]byte{byte(page >> 8), byte(page)})+val[4:]), api.OK)
		puts(t, s, "text", b.nameOf("", 1), false, api.OK)
	}
	if _, e := inMap.Delete(b.nameOf("", 1)); e != api.OK {
		t.Fatal(e)
	}
	puts(t, s, "text", b.nameOf("", 4), false, api.OK)
	puts(t, s, "new", b.nameOf("", 1), true, api.OK)
}

// P11.1: behind Mark and Back, behind Drop and behind Commit each call's change is gone, or is there.
func TestMarkAndBack(t *testing.T) {
	b := laid(t, 60, 2)
	b.keep("a", "b", "c")
	b.commit()
	calls := []func(){
		func() { b.put(0, "new") },
		func() { b.add(1, b.want.names()[0], 1) },
		func() { b.apply(0, b.want.names()[1], 1) },
		func() { b.merge(1, 1) },
		func() { b.reclaim(0, 1) },
	}
	for range 2 {
		for _, call := range calls {
			mark := b.mark(0)
			for _, other := range calls {
				inner := b.mark(1)
				other()
				b.back(0, inner)
				other()
			}
			b.back(1, mark)
			b.back(0, math.MaxInt)
			call()
			b.commit()
			b.reopen()
			for _, other := range calls {
				other()
			}
			b.forget()
			b.mark(0)
			b.back(0, -1)
		}
	}
	b.back(0, math.MinInt)
	b.rest()
}

// P11.1: stores of two changes know nothing of one another ahead of Commit; one Store tells what others have changed in its room.
func TestStoresOfTwoChanges(t *testing.T) {
	b := laid(t, 30, 2)
	one, other := b.store(0), chunks.At(room.Of(tx.Begin(b.log)))
	kept := b.keep("kept")[0]
	b.add(1, kept, 1)
	text, e := other.Get(kept)
	tells(t, text, e, "", api.ErrLost)
	waits, e := other.Waits()
	tells(t, waits, e, 0, api.OK)
	counts(t, one, kept, 0, 1, api.OK)
	b.merge(1, 1)
	counts(t, one, kept, 1, 0, api.OK)
	b.commit()
	counts(t, other, kept, 1, 0, api.OK)
	says(t, other.Add(kept, -1), api.OK)
	counts(t, one, kept, 1, 0, api.OK)
	b.check()
}

// R1: which error comes first where several would fit: ErrDown, then ErrArg, then ErrLost, then ErrFull.
func TestWhichErrorComesFirst(t *testing.T) {
	b := laid(t, 8, 1)
	id := b.keep("there")[0]
	b.leave(0)
	says(t, b.put(0, ""), api.ErrArg)
	says(t, b.put(0, long(129)), api.ErrArg)
	says(t, b.put(0, "new"), api.ErrFull)
	says(t, b.put(0, "there"), api.OK)
	for _, by := range wrongBy() {
		says(t, b.add(0, "none", by), api.ErrArg)
		says(t, b.add(0, id, by), api.ErrArg)
		says(t, b.store(0).Apply("none", by), api.ErrArg)
	}
	says(t, b.add(0, "none", 1), api.ErrLost)
	says(t, b.add(0, id, 1), api.ErrFull)
	b.apply(0, id, 1)
	b.bringDown()
	downs(t, b.store(0))
}

// downs: that each call of a store answers ErrDown, and nothing beside it.
func downs(t *testing.T, s *chunks.Store) {
	t.Helper()
	for _, text := range []string{"", "a", "there", long(129)} {
		puts(t, s, text, "", false, api.ErrDown)
	}
	for _, id := range []string{"", "none", fingerprint("a") + "\x00", fingerprint("there") + "\x00"} {
		text, e := s.Get(id)
		tells(t, text, e, "", api.ErrDown)
		for _, by := range append(wrongBy(), 1, -1) {
			says(t, s.Add(id, by), api.ErrDown)
			says(t, s.Apply(id, by), api.ErrDown)
		}
		counts(t, s, id, 0, 0, api.ErrDown)
	}
	for _, limit := range limits(2) {
		n, e := s.Merge(limit)
		tells(t, n, e, 0, api.ErrDown)
		n, e = s.Reclaim(limit)
		tells(t, n, e, 0, api.ErrDown)
	}
	n, e := s.Waits()
	tells(t, n, e, 0, api.ErrDown)
	all, e := s.All()
	lists(t, all, e, nil, api.ErrDown)
}

// R2: a nil store, a zero one, one of a nil room, and of rooms of changes and logs that are none: ErrDown; Mark 0; Back nothing.
func TestNil(t *testing.T) {
	var none *chunks.Store
	stores := map[string]*chunks.Store{
		"nil":           none,
		"zero":          {},
		"nil room":      chunks.At(nil),
		"zero room":     chunks.At(&room.Room{}),
		"nil change":    chunks.At(room.Of(nil)),
		"nil log":       chunks.At(room.Of(tx.Begin(nil))),
		"other's print": chunks.AtPrinted(nil, alike),
		"zero log":      chunks.At(room.Of(tx.Begin(&wal.Log{}))),
	}
	for name, s := range stores {
		t.Run(name, func(t *testing.T) {
			for _, mark := range []int{math.MinInt, -1, 0, 1, math.MaxInt} {
				s.Back(mark)
				tells(t, s.Mark(), api.OK, 0, api.OK)
			}
			downs(t, s)
		})
	}
	if chunks.At(nil) == nil {
		t.Error("At of a nil room answers no store")
	}
}

// P11.1: of a room whose log has gone down each call answers ErrDown; opened again, what was committed is there, and nothing else.
func TestLogThatIsDown(t *testing.T) {
	b := laid(t, 40, 2)
	ids := b.keep("a", "there", "c")
	b.add(0, ids[0], 1)
	b.add(0, ids[1], 1)
	b.merge(0, 1)
	b.commit()
	b.add(0, ids[1], 1)
	b.put(0, "lost")
	b.bringDown()
	downs(t, b.store(0))
	downs(t, b.store(1))
	b.reopen()
	b.reclaim(0, 9)
	b.rest()
}

// spoil: overwrites a text's bytes, so that whoever shares them has another one.
func spoil(s string) {
	for k := range len(s) {
		*(*byte)(unsafe.Add(unsafe.Pointer(unsafe.StringData(s)), k)) = 'y'
	}
}

// given: a text whose bytes nobody else has.
func given(s string) string {
	bytes := []byte(s)
	return unsafe.String(unsafe.SliceData(bytes), len(bytes))
}

// R4: what a call hands out or takes is shared with nothing.
func TestSharesNothing(t *testing.T) {
	b := laid(t, 60, 2)
	for _, commit := range []bool{false, true, false} {
		for k := range b.rooms {
			s := b.store(k)
			for _, name := range append(numbered(9, 30), "x", long(128)) {
				text := given(name)
				id, fresh, e := s.Put(text)
				says(t, e, api.OK)
				if fresh {
					b.want.chunks[strings.Clone(id)] = kept{name, 0}
				}
				spoil(text)
				spoil(id)
				id = given(fingerprint(name) + "\x00")
				says(t, s.Add(id, 1), api.OK)
				b.want.log = append(slices.Clone(b.want.log), entry{fingerprint(name) + "\x00", 1})
				says(t, s.Apply(id, -1), api.OK)
				b.want.add(fingerprint(name)+"\x00", -1)
				text, e = s.Get(id)
				says(t, e, api.OK)
				spoil(text)
				spoil(id)
				b.check()
			}
			all, e := s.All()
			says(t, e, api.OK)
			for i := range all {
				spoil(all[i].ID)
				all[i] = api.Chunk{ID: "other", Len: -1, Count: -1}
			}
			b.check()
			b.merge(k, 7)
			b.reclaim(k, 3)
		}
		if commit {
			b.commit()
			b.reopen()
		}
	}
}

// R7: the same calls leave the same homes, by whichever rooms of the change, by one Store or many, and whatever was done and taken back between.
func TestSameCallsSameHomes(t *testing.T) {
	texts := numbered(30, 50)
	run := func(rooms int, between func(b *bench, step int)) []string {
		b := laid(t, 120, rooms)
		b.lazy = true
		for k, text := range texts {
			b.put(k%rooms, text)
			for n := range k % 4 {
				b.add((k+n)%rooms, fingerprint(texts[k-n])+"\x00", 1)
			}
			between(b, k)
			if k%10 == 9 {
				b.merge(k%rooms, 13)
				b.reclaim(0, 2)
			}
		}
		b.lazy = false
		return b.allHomes()
	}
	want := run(1, func(b *bench, step int) {})
	for rooms := 1; rooms <= 3; rooms++ {
		got := run(rooms, func(b *bench, step int) {
			mark := b.mark(0)
			b.put(0, fmt.Sprint("other", step))
			b.merge(0, step)
			b.reclaim(0, step)
			b.back(0, mark)
			b.store(0).All()
		})
		if !slices.Equal(got, want) {
			t.Fatalf("%d rooms: other homes", rooms)
		}
	}
}
