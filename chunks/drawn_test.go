package chunks_test

import (
	"encoding/binary"
	"fmt"
	"math"
	"math/rand"
	"slices"
	"strings"
	"testing"
	"time"

	"cooperage/api"
	"cooperage/blob"
	"cooperage/chunks"
	"cooperage/room"
	"cooperage/sector"
	"cooperage/tree"
	"cooperage/tx"
	"cooperage/wal"
)

// drawnText: one of some 60, of each length now and then.
func drawnText(source *rand.Rand) string {
	n := source.Intn(60)
	return fmt.Sprintf("%02d", n) + strings.Repeat("t", n*37%127)
}

// drawnName: mostly a chunk's; now and then none's.
func (b *bench) drawnName(source *rand.Rand) string {
	list := b.want.names()
	if len(list) == 0 || source.Intn(12) == 0 {
		list = b.noNames()
	}
	return list[source.Intn(len(list))]
}

// drawnBy: mostly right; now and then not.
func drawnBy(source *rand.Rand) int {
	if source.Intn(15) == 0 {
		return wrongBy()[source.Intn(len(wrongBy()))]
	}
	return []int{1, 1, -1}[source.Intn(3)]
}

// act: a drawn call of a drawn room.
func (b *bench) act(source *rand.Rand) {
	b.t.Helper()
	k := source.Intn(len(b.rooms))
	switch source.Intn(26) {
	case 0, 1, 2, 3, 4:
		b.put(k, drawnText(source))
	case 5, 6, 7, 8, 9, 10, 11:
		b.add(k, b.drawnName(source), drawnBy(source))
	case 12, 13:
		b.apply(k, b.drawnName(source), drawnBy(source))
	case 14, 15:
		b.merge(k, source.Intn(12)-1)
	case 16, 17:
		b.reclaim(k, source.Intn(6)-1)
	case 18:
		if limit := []int{math.MinInt, 0, 1 << 32, math.MaxInt}[source.Intn(4)]; source.Intn(2) == 0 {
			b.merge(k, limit)
		} else {
			b.reclaim(k, limit)
		}
	case 19:
		b.put(k, []string{"", "x", long(128), long(129)}[source.Intn(4)])
	case 20:
		if !b.down && source.Intn(2) == 0 {
			b.leave(source.Intn(b.want.pages))
		} else if !b.down {
			b.number(3+source.Intn(13), source.Uint64())
		}
	case 21:
		b.mark(k)
	case 22, 23:
		list := []int{-1, math.MaxInt}
		for _, m := range b.marks {
			list = append(list, m.mark, m.mark)
		}
		b.back(k, list[source.Intn(len(list))])
	case 24:
		if !b.down {
			b.commit()
		}
	case 25:
		switch source.Intn(6) {
		case 0:
			b.forget()
		case 1:
			if !b.down {
				b.rest()
			}
		}
	}
}

// P11.1, P11.2, P11.3: drawn calls of one room, of two and of three of one change, with the document's fingerprints, with few ones and with one alone, to the log's going down, behind it, and when it is opened again.
func TestDrawnActs(t *testing.T) {
	prints := []func(string) string{fingerprint, fewPrints, alike}
	for _, pages := range []int{1, 2, 6, 20, 90} {
		for rooms := 1; rooms <= 3; rooms++ {
			for seed := range 4 {
				source := rand.New(rand.NewSource(int64(seed)))
				b := laid(t, pages, rooms)
				b.print = prints[(seed+rooms)%3]
				for range 250 {
					b.act(source)
				}
				b.bringDown()
				for range 20 {
					b.act(source)
				}
				b.reopen()
				for range 20 {
					b.act(source)
				}
				b.rest()
			}
		}
	}
}

// P11.1, P11.3: many drawn calls of one store of many chunks, committed and opened again now and then.
func TestThroughCommits(t *testing.T) {
	source := rand.New(rand.NewSource(11))
	b := laid(t, 1200, 1)
	b.lazy = true
	for n := range 4000 {
		switch source.Intn(10) {
		case 0, 1, 2, 3:
			b.put(0, fmt.Sprint(source.Intn(700)))
		case 4, 5, 6:
			if names := b.want.names(); len(names) > 0 {
				b.add(0, names[source.Intn(len(names))], drawnBy(source))
			}
		case 7:
			if n%50 == 0 {
				b.reclaim(0, source.Intn(40))
			}
		case 8:
			b.merge(0, source.Intn(4))
		case 9:
			b.commit()
			if source.Intn(9) == 0 {
				b.reopen()
			}
		}
	}
	if len(b.want.chunks) < 100 || len(b.want.log) < 20 {
		t.Fatalf("few chunks, %d, or entries, %d", len(b.want.chunks), len(b.want.log))
	}
	b.lazy = false
	b.check()
	b.rest()
	for _, id := range b.want.names() {
		b.lazy = true
		for b.want.chunks[id].count > 0 {
			b.apply(0, id, -1)
		}
	}
	b.lazy = false
	b.rest()
	used, e := b.rooms[0].Used()
	tells(t, used, e, 0, api.OK)
}

// P11.1, ErrFull: a Put, in a room with just as many free pages as it needs, is done; with one less, and with none, it is refused, and nothing has changed.
func TestPutInLittleRoom(t *testing.T) {
	b := laid(t, 400, 1)
	needed := map[int]int{}
	for n := range 120 {
		b.lazy = n%10 > 0
		b.leave(20)
		text := fmt.Sprint("text", n*n)
		mark, free := b.mark(0), b.free()
		says(t, b.put(0, text), api.OK)
		needs := free - b.free()
		b.back(0, mark)
		needed[needs]++
		for _, left := range []int{needs - 1, 0, needs} {
			b.leave(left)
			want := api.ErrFull
			if left == needs {
				want = api.OK
			}
			says(t, b.put(0, text), want)
			says(t, b.put(0, text), want)
		}
		if n%7 == 0 {
			says(t, b.add(0, b.nameOf(text, 0), 1), api.ErrFull)
		}
	}
	if needed[1] < 9 || needed[2] < 9 || needed[0] > 0 {
		t.Fatalf("how many pages Puts needed: %v", needed)
	}
	b.leave(20)
	b.lazy = false
	b.rest()
}

// P11.1, ErrFull: an Add, in a room with just as many free pages as it needs, is done; with one less, and with none, if it needs any, it is refused, and nothing has changed.
func TestAddInLittleRoom(t *testing.T) {
	b := laid(t, 300, 1)
	ids, needed := b.keep(numbered(5, 20)...), map[int]int{}
	for n := range 1000 {
		b.lazy = n%50 > 0
		id, by := ids[n%5], []int{1, -1}[n/7%2]
		b.leave(20)
		mark, free := b.mark(0), b.free()
		says(t, b.add(0, id, by), api.OK)
		needs := free - b.free()
		b.back(0, mark)
		needed[needs]++
		if needs > 0 {
			b.leave(needs - 1)
			says(t, b.add(0, id, by), api.ErrFull)
			b.leave(0)
			says(t, b.add(0, id, by), api.ErrFull)
		}
		if needs > 0 || n%20 == 0 {
			b.leave(needs)
		}
		says(t, b.add(0, id, by), api.OK)
	}
	if needed[1] < 5 || needed[2] < 1 || needed[0] < 500 {
		t.Fatalf("how many pages Adds needed: %v", needed)
	}
	b.lazy = false
	b.merge(0, 333)
	b.rest()
}

// P11.1: in a room without a free page Apply, Merge and Reclaim are done, however many chunks and entries there are; somebody else takes each page that is given back.
func TestFullRoom(t *testing.T) {
	for _, print := range []func(string) string{fingerprint, alike} {
		b := laid(t, 200, 1)
		b.print, b.lazy = print, true
		ids := b.keep(numbered(100, 33)...)
		for n := 0; b.add(0, ids[n*n%100], []int{1, 1, -1}[n%3]) == api.OK && n < 1500; n++ {
			b.leave(20 - n/50)
		}
		b.leave(0)
		b.commit()
		for n := 0; len(b.want.log) > 0; n++ {
			b.leave(0)
			b.merge(0, n%30)
			b.leave(0)
			b.apply(0, ids[n%100], []int{-1, 1, -1}[n%3])
			b.reclaim(0, n%3)
			ids = append(b.want.names(), ids...)[:100]
		}
		for _, id := range b.want.names() {
			for b.want.chunks[id].count > 0 {
				b.apply(0, id, -1)
			}
			b.leave(0)
			b.reclaim(0, 1)
		}
		b.lazy = false
		b.leave(0)
		b.rest()
		if len(b.want.chunks) > 0 || len(b.want.others) != 200 {
			t.Fatal("it isn't empty")
		}
	}
}

// P11.1: in rooms of no page, of one, and of few: nothing is put in the first ones; a chunk takes a page, and its map another one.
func TestSmallRooms(t *testing.T) {
	for pages := range 6 {
		b := laid(t, pages, 1)
		done := 0
		for n := range 8 {
			if b.put(0, fmt.Sprint("small", n)) == api.OK {
				done++
			}
		}
		if want := max(0, pages-1); done != want {
			t.Fatalf("%d pages: %d chunks, not %d", pages, done, want)
		}
		b.merge(0, 1)
		b.reclaim(0, 1)
		for _, id := range b.want.names() {
			b.add(0, id, 1)
			b.apply(0, id, 1)
		}
		b.rest()
	}
}

// P11.1, and P5.2 through it: a store is there, behind Open, as its last Commit left it, or as the one that was broken off would have, whatever the fall keeps.
func TestBrokenCommit(t *testing.T) {
	for _, keep := range []string{"nothing", "all", "some"} {
		for fuel, done := 0, false; !done; fuel++ {
			b := laid(t, 40, 1)
			b.lazy = true
			ids := b.keep(numbered(8, 60)...)
			for k, id := range ids {
				b.add(0, id, 1)
				b.apply(0, id, k%2)
			}
			b.commit()
			b.keep("newer", "newest")
			b.merge(0, 5)
			b.apply(0, ids[0], -1)
			b.reclaim(0, 1)
			b.add(0, ids[7], -1)
			b.disk.Fuel(fuel)
			done = b.change.Commit() == api.OK
			b.disk.Fuel(-1)
			var list []bool
			for k := range b.disk.Loose() {
				list = append(list, keep == "all" || keep == "some" && k%2 == fuel%2)
			}
			b.disk.Fall(list)
			l, e := wal.Open(b.disk, ring)
			says(t, e, api.OK)
			all, e := chunks.At(room.Of(tx.Begin(l))).All()
			says(t, e, api.OK)
			if slices.Equal(all, b.want.all()) {
				b.marks[0].was = b.want.copied()
			} else if done {
				t.Fatal("what was committed isn't there")
			}
			b.lazy = false
			b.reopen()
			b.rest()
		}
	}
}

// agree: that all calls of the store end, whatever stands in its room, and that what is refused has changed nothing; all is taken back.
func (b *bench) agree() {
	b.t.Helper()
	s, mark, before := b.store(0), b.change.Mark(), b.allHomes()
	see := func(refused bool, e api.Errno) {
		b.t.Helper()
		if e != api.OK && e != api.ErrLost && e != api.ErrFull {
			b.t.Fatalf("refused by %d", e)
		}
		if refused {
			b.looked(mark, before)
		}
		b.change.Back(mark)
	}
	for _, text := range []string{"0", "4", "17", "new", long(128)} {
		_, fresh, e := s.Put(text)
		see(!fresh, e)
	}
	for _, id := range append(b.noNames(), b.want.names()...) {
		_, e := s.Get(id)
		see(true, e)
		_, _, e = s.Count(id)
		see(true, e)
		e = s.Add(id, 1)
		see(e != api.OK, e)
		e = s.Apply(id, -1)
		see(e != api.OK, e)
	}
	for _, limit := range []int{0, 1, 20, math.MaxInt} {
		_, e := s.Merge(limit)
		see(e != api.OK, e)
		_, e = s.Reclaim(limit)
		see(e != api.OK, e)
	}
	_, e := s.Waits()
	see(true, e)
	_, e = s.All()
	see(true, e)
}

// looked: that nothing has changed, and nothing was put.
func (b *bench) looked(mark int, before []string) {
	b.t.Helper()
	if b.change.Mark() != mark || !slices.Equal(before, b.allHomes()) {
		b.t.Fatal("what only looks, or was refused, has changed something")
	}
}

// broken: a store of 40 pages with chunks and a log of some records.
func broken(t *testing.T, print func(string) string) *bench {
	t.Helper()
	b := laid(t, 40, 1)
	b.print, b.lazy = print, true
	for n := range 20 {
		b.put(0, fmt.Sprint(n))
	}
	for n, id := range b.want.names() {
		for range n % 5 {
			b.add(0, id, 1)
		}
		b.apply(0, id, n%2)
	}
	b.lazy = false
	b.commit()
	return b
}

// P0, P11.1: stores of which a page is free, or holds noughts or something else, or what another one does: each call ends, and what is refused changes nothing.
func TestBrokenStores(t *testing.T) {
	b := broken(t, fingerprint)
	r := b.rooms[0]
	for page := range 40 {
		mark := r.Mark()
		held, e := r.Read(page)
		if e != api.OK {
			continue
		}
		says(t, r.Free(page), api.OK)
		b.agree()
		r.Back(mark)
		for _, s := range []string{"", "n", long(512), held[:40] + "x" + held[41:]} {
			says(t, r.Write(page, s), api.OK)
			b.agree()
			r.Back(mark)
		}
		for other := range 40 {
			if s, e := r.Read(other); e == api.OK && (page+other)%7 == 0 {
				says(t, r.Write(page, s), api.OK)
				b.agree()
				r.Back(mark)
			}
		}
	}
	for _, n := range []uint64{0, 1, 2, 7, 41, 1 << 16, 1 << 32, math.MaxUint64} {
		for place := range 3 {
			mark := r.Mark()
			says(t, r.SetRoot(place, n), api.OK)
			b.agree()
			r.Back(mark)
		}
	}
	b.check()
}

// P0, P11.1: values in the store's maps that are drawn ones, or too short, or too long: each call ends.
func TestDrawnValues(t *testing.T) {
	for _, print := range []func(string) string{fingerprint, alike} {
		b := broken(t, print)
		source, r := rand.New(rand.NewSource(4)), b.rooms[0]
		for place := range 2 {
			m := tree.At(r, place)
			pairs, e := m.Scan("", "", 99)
			says(t, e, api.OK)
			for range 60 {
				mark, p := r.Mark(), pairs[source.Intn(len(pairs))]
				val := []byte(p.Val)
				switch source.Intn(4) {
				case 0:
					source.Read(val)
				case 1:
					val = val[:source.Intn(len(val))]
				case 2:
					val = append(val, 0)
				case 3:
					val[source.Intn(len(val))] = []byte{0, 1, 2, 20, 128, 129, 255}[source.Intn(7)]
				}
				says(t, m.Put(p.Key, string(val)), api.OK)
				b.agree()
				r.Back(mark)
			}
		}
		b.check()
	}
}

// lost: that what each of such calls tells is ErrLost, and that nothing has changed.
func (b *bench) lost(calls ...func() api.Errno) {
	b.t.Helper()
	mark, before := b.change.Mark(), b.allHomes()
	for n, call := range calls {
		if e := call(); e != api.ErrLost {
			b.t.Fatalf("call %d: %d, not %d", n, e, api.ErrLost)
		}
		b.looked(mark, before)
	}
}

// P11.1, R3: chunks whose texts aren't there, or are other ones, are lost, as far as that is found: also where several chunks or entries ahead of them have been worked already.
func TestLostTexts(t *testing.T) {
	b := broken(t, fingerprint)
	r, s := b.rooms[0], b.store(0)
	last := b.want.names()[19]
	val, _, e := tree.At(r, 0).Get(last)
	says(t, e, api.OK)
	page := int(binary.BigEndian.Uint32([]byte(val)))
	get := func() api.Errno { _, e := s.Get(last); return e }
	put := func() api.Errno { _, _, e := s.Put(b.want.chunks[last].text); return e }
	merge := func() api.Errno { _, e := s.Merge(999); return e }
	reclaim := func() api.Errno { _, e := s.Reclaim(999); return e }
	mark := s.Mark()
	says(t, r.Free(page), api.OK)
	b.lost(get, put, merge)
	s.Back(mark)
	says(t, r.Write(page, "none"), api.OK)
	b.lost(get, put, merge)
	s.Back(mark)
	says(t, blob.Drop(r, page), api.OK)
	other, e := blob.Put(r, "other text")
	tells(t, other, e, page, api.OK)
	b.lost(get, put, merge)
	s.Back(mark)
	for _, number := range []uint32{40, 1 << 16, 1 << 31, math.MaxUint32} {
		says(t, tree.At(r, 0).Put(last, string(binary.BigEndian.AppendUint32(nil, number))+val[4:]), api.OK)
		b.lost(get, put, merge)
		if number >= 1<<16 {
			b.lost(func() api.Errno { return s.Add(last, 1) }, func() api.Errno { return s.Apply(last, 1) })
		}
		b.change.Back(mark)
	}
	b.merge(0, 999)
	for b.want.chunks[last].count > 0 {
		b.apply(0, last, -1)
	}
	b.apply(0, b.want.names()[0], -1)
	mark = s.Mark()
	says(t, r.Free(page), api.OK)
	b.lost(get, put, reclaim)
	s.Back(mark)
	says(t, tree.At(r, 0).Put(last, "\x00\x00\x00\x28"+val[4:]), api.OK)
	b.lost(get, put)
	for _, bad := range []string{"", val[:12], val + "\x00", val[:4] + "\x00" + val[5:], val[:4] + "\x81" + val[5:]} {
		says(t, tree.At(r, 0).Put(last, bad), api.OK)
		b.lost(get, put, reclaim, func() api.Errno { _, e := s.All(); return e }, func() api.Errno { return s.Add(last, 1) })
	}
}

// P11.1, R3: a log in which there are no entries, or of chunks that aren't there, is lost.
func TestLostLog(t *testing.T) {
	b := broken(t, fingerprint)
	r, s := b.rooms[0], b.store(0)
	m := tree.At(r, 1)
	pairs, e := m.Scan("", "", 99)
	says(t, e, api.OK)
	if len(pairs) < 3 {
		t.Fatalf("%d records", len(pairs))
	}
	first, last := b.want.names()[0], pairs[len(pairs)-1]
	calls := []func() api.Errno{
		func() api.Errno { _, e := s.Waits(); return e },
		func() api.Errno { _, e := s.Merge(999); return e },
		func() api.Errno { _, e := s.Reclaim(999); return e },
		func() api.Errno { _, _, e := s.Count(first); return e },
		func() api.Errno { return s.Add(first, 1) },
	}
	mark := s.Mark()
	for _, bad := range []string{"", "a", last.Val[:2], last.Val + "\x00", "\x00\x01\x00", "\x00\x01\x02", last.Val[:3] + "\x00\x00\xfe"} {
		says(t, m.Put(last.Key, bad), api.OK)
		b.lost(calls...)
		s.Back(mark)
	}
	for _, bad := range []string{"\x00\x27\x01", "\xff\xff\x01"} {
		says(t, m.Put(last.Key, bad), api.OK)
		b.lost(calls[1])
		s.Back(mark)
	}
	b.check()
}

// greatRoom: one of as many pages as a disk may have.
func greatRoom(t *testing.T) *room.Room {
	t.Helper()
	d, e := sector.New(api.MaxSectors)
	says(t, e, api.OK)
	l, e := wal.Open(d, 4)
	says(t, e, api.OK)
	return room.Of(tx.Begin(l))
}

// P0: in a room as great as a disk may be, with many chunks and a log of many entries, all ends soon; of entries many stand in a page.
func TestEndsSoon(t *testing.T) {
	start := time.Now()
	r := greatRoom(t)
	s := chunks.At(r)
	var ids []string
	for n := range 20000 {
		id, fresh, e := s.Put(fmt.Sprint("many", n))
		if e != api.OK || !fresh {
			t.Fatal(n, fresh, e)
		}
		ids = append(ids, id)
	}
	for n := range 60000 {
		says(t, s.Add(ids[n*7%10000], 1), api.OK)
	}
	if inLog, e := tree.At(r, 1).Check(); e != api.OK || inLog > 60000/50 {
		t.Errorf("60000 entries in %d pages, %d", inLog, e)
	}
	for n := range 100 {
		counts(t, s, ids[n], 0, 6, api.OK)
	}
	n, e := s.Reclaim(math.MaxInt)
	tells(t, n, e, 10000, api.OK)
	n, e = s.Merge(30000)
	tells(t, n, e, 30000, api.OK)
	for range 100 {
		n, e = s.Merge(8)
		tells(t, n, e, 8, api.OK)
		n, e = s.Reclaim(8)
		tells(t, n, e, 0, api.OK)
	}
	n, e = s.Waits()
	tells(t, n, e, 60000-30000-800, api.OK)
	n, e = s.Merge(math.MaxInt)
	tells(t, n, e, 60000-30000-800, api.OK)
	all, e := s.All()
	tells(t, len(all), e, 10000, api.OK)
	for _, x := range all {
		tells(t, x.Count, e, 6, api.OK)
	}
	if took := time.Since(start); took > time.Minute {
		t.Errorf("%v", took)
	}
}
