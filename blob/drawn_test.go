package blob_test

import (
	"maps"
	"math"
	"math/rand"
	"slices"
	"strings"
	"testing"
	"time"

	"cooperage/api"
	"cooperage/blob"
	"cooperage/room"
	"cooperage/tx"
	"cooperage/wal"
)

// drawnLength: of a text: mostly of few pages, often one that fills pages just so.
func drawnLength(source *rand.Rand) int {
	switch source.Intn(6) {
	case 0:
		return source.Intn(3)
	case 1:
		return max(0, 506*source.Intn(5)+source.Intn(3)-1)
	case 2:
		return source.Intn(6000)
	}
	return source.Intn(1600)
}

// page: a drawn page: mostly one where a blob begins.
func (b *bench) page(source *rand.Rand) int {
	firsts := b.want.firsts()
	switch {
	case source.Intn(10) == 0:
		list := b.edges()
		return list[source.Intn(len(list))]
	case len(firsts) == 0 || source.Intn(5) == 0:
		return source.Intn(b.want.pages+2) - 1
	}
	return firsts[source.Intn(len(firsts))]
}

// act: a drawn call of a drawn room.
func (b *bench) act(source *rand.Rand) {
	b.t.Helper()
	k := source.Intn(len(b.rooms))
	switch source.Intn(20) {
	case 0, 1, 2, 3, 4, 5, 6, 7:
		b.put(k, drawnText(source, drawnLength(source)))
	case 8, 9, 10, 11, 12:
		b.drop(k, b.page(source))
	case 13:
		b.put(k, tooLong)
	case 14:
		if !b.down && b.want.free(b.t) > 0 {
			b.take([]string{"", "somebody else's"}[source.Intn(2)])
		}
	case 15:
		for _, page := range slices.Sorted(maps.Keys(b.want.others)) {
			if !b.down && source.Intn(3) == 0 {
				b.giveBack(page)
			}
		}
	case 16:
		b.mark(k)
	case 17:
		list := []int{-1, math.MaxInt}
		for _, m := range b.marks {
			list = append(list, m.mark, m.mark)
		}
		b.back(k, list[source.Intn(len(list))])
	case 18:
		if !b.down {
			b.commit()
		}
	case 19:
		if source.Intn(3) == 0 {
			b.forget()
		}
	}
}

// P8.1: drawn calls of one room, of two and of three of one change, to the log's going down, behind it, and when it is opened again.
func TestDrawnActs(t *testing.T) {
	for _, pages := range []int{1, 2, 3, 5, 12, 40, 200} {
		for rooms := 1; rooms <= 3; rooms++ {
			for seed := range 4 {
				source := rand.New(rand.NewSource(int64(seed)))
				b := laid(t, pages, rooms)
				for range 80 {
					b.act(source)
				}
				b.bringDown()
				for range 12 {
					b.act(source)
				}
				b.reopen()
				for range 12 {
					b.act(source)
				}
			}
		}
	}
}

// P8.2: behind drawn puts and drops each blob is got as it was put, as many pages are taken as they need together, and with all dropped none.
func TestDrawnPutsAndDrops(t *testing.T) {
	for _, pages := range []int{3, 30, 330, 900} {
		for seed := range 6 {
			source := rand.New(rand.NewSource(int64(seed)))
			b := laid(t, pages, 1)
			for range 60 {
				if firsts := b.want.firsts(); len(firsts) > 0 && source.Intn(3) == 0 {
					b.drop(0, firsts[source.Intn(len(firsts))])
				} else if source.Intn(40) == 0 {
					b.put(0, drawnText(source, 131072-source.Intn(3)))
				} else {
					b.put(0, drawnText(source, drawnLength(source)))
				}
				b.needsTogether()
				if source.Intn(4) == 0 {
					b.commit()
				}
			}
			firsts := b.want.firsts()
			source.Shuffle(len(firsts), func(i, k int) { firsts[i], firsts[k] = firsts[k], firsts[i] })
			for _, page := range firsts {
				b.drop(0, page)
				b.needsTogether()
			}
			used, e := b.rooms[0].Used()
			tells(t, used, e, 0, api.OK)
			b.commit()
			b.reopen()
			used, e = b.rooms[0].Used()
			tells(t, used, e, 0, api.OK)
		}
	}
}

// needsTogether: that as many pages are taken as the blobs need together.
func (b *bench) needsTogether() {
	b.t.Helper()
	want := 0
	for _, one := range b.want.blobs {
		want += needs(len(one.text))
	}
	used, e := b.rooms[0].Used()
	tells(b.t, used, e, want, api.OK)
}

// agree: that Get, List and Drop answer a page that there is alike; that each of them ends; that what is refused changes nothing, and that Drop frees what List tells. All is taken back. It tells the error.
func agree(t *testing.T, b *bench, page int) api.Errno {
	t.Helper()
	r, mark, before := b.rooms[0], b.change.Mark(), b.allHomes()
	text, e := blob.Get(r, page)
	pages, listErr := blob.List(r, page)
	says(t, listErr, e)
	if b.change.Mark() != mark || !slices.Equal(before, b.allHomes()) {
		t.Fatal("what only looks has changed something")
	}
	used, usedErr := r.Used()
	says(t, usedErr, api.OK)
	says(t, blob.Drop(r, page), e)
	if e != api.OK {
		says(t, e, api.ErrLost)
		if text != "" || len(pages) > 0 || b.change.Mark() != mark {
			t.Fatalf("page %d: refused by %d, but %d bytes, pages %v", page, e, len(text), pages)
		}
		return e
	}
	left, usedErr := r.Used()
	tells(t, left, usedErr, used-len(pages), api.OK)
	if len(pages) != needs(len(text)) || pages[0] != page {
		t.Fatalf("page %d: %d bytes in pages %v", page, len(text), pages)
	}
	r.Back(mark)
	return e
}

// P8.1, P0: a blob of which a page is free, or holds noughts or something else, or the bytes of another page of any blob: each call ends, and what is found to be no blob is ErrLost.
func TestBrokenBlobs(t *testing.T) {
	b := laid(t, 30, 1)
	first := b.put(0, strings.Repeat("f", 2500))
	second := b.put(0, strings.Repeat("s", 2500))
	b.put(0, "")
	b.commit()
	r := b.rooms[0]
	pages := b.want.blobs[first].pages
	all := slices.Concat(pages, b.want.blobs[second].pages)
	for k, page := range pages {
		mark := r.Mark()
		says(t, r.Free(page), api.OK)
		says(t, agree(t, b, first), api.ErrLost)
		taken, e := r.Alloc()
		tells(t, taken, e, page, api.OK)
		says(t, agree(t, b, first), api.ErrLost)
		for _, s := range []string{"n", strings.Repeat("n", 512), strings.Repeat("\xff", 512)} {
			says(t, r.Write(page, s), api.OK)
			says(t, agree(t, b, first), api.ErrLost)
		}
		for _, other := range all {
			s, e := r.Read(other)
			says(t, e, api.OK)
			says(t, r.Write(page, s), api.OK)
			for _, from := range all {
				agree(t, b, from)
			}
			if e := agree(t, b, first); e == api.OK && k > 0 && slices.Contains(pages, other) {
				t.Fatalf("page %d holds what page %d does, and a blob begins at %d", page, other, first)
			}
		}
		r.Back(mark)
		b.check()
	}
}

// P8.1: a blob of whose second page another blob was made, with just the bytes that the first one had there and behind, is none.
func TestBlobThatBeginsInAnotherOne(t *testing.T) {
	for _, n := range []int{1, 500, 506, 1200} {
		b := laid(t, 20, 1)
		long, short := b.put(0, strings.Repeat("l", 506+n)), b.put(0, strings.Repeat("s", n))
		s, e := b.rooms[0].Read(short)
		says(t, e, api.OK)
		says(t, b.rooms[0].Write(b.want.blobs[long].pages[1], s), api.OK)
		says(t, agree(t, b, long), api.ErrLost)
		says(t, agree(t, b, short), api.OK)
	}
}

// P8.1, P0: pages whose bytes are drawn ones, or a blob's with a few others among them: each call ends.
func TestDrawnPages(t *testing.T) {
	for seed := range 300 {
		source := rand.New(rand.NewSource(int64(seed)))
		b := laid(t, 12, 1)
		b.put(0, drawnText(source, 1500))
		b.put(0, drawnText(source, 400))
		b.put(0, drawnText(source, 2200))
		r := b.rooms[0]
		for range 8 {
			page := source.Intn(9)
			s, e := r.Read(page)
			says(t, e, api.OK)
			text := []byte(s)
			if source.Intn(4) == 0 {
				source.Read(text)
			}
			for range 1 + source.Intn(3) {
				text[source.Intn(8)] = []byte{0, 1, 2, 3, byte(source.Intn(12)), 254, 255, text[0]}[source.Intn(8)]
			}
			says(t, r.Write(page, string(text)), api.OK)
			for page := range 12 {
				agree(t, b, page)
			}
		}
	}
}

// P8.1, P0: each byte of a blob's first page, in turn, with each other value: each call ends.
func TestEachByteOfTheFirstPage(t *testing.T) {
	b := laid(t, 8, 1)
	first := b.put(0, strings.Repeat("e", 1500))
	r := b.rooms[0]
	s, e := r.Read(first)
	says(t, e, api.OK)
	for k := range 16 {
		for value := range 256 {
			text := []byte(s)
			text[k] = byte(value)
			mark := r.Mark()
			says(t, r.Write(first, string(text)), api.OK)
			agree(t, b, first)
			r.Back(mark)
		}
	}
	b.check()
}

// P8.1: a page that is laid ahead of a blob, as if that one began there, makes a blob of both, but none of more bytes than a blob may have. (This test alone knows how a page stands: its kind in one byte, the bytes there and behind in three, the next page in two.)
func TestForgedBlobs(t *testing.T) {
	for n, want := range map[int]api.Errno{1000: api.OK, 130566: api.OK, 130567: api.ErrLost, 131072: api.ErrLost} {
		b := laid(t, 300, 1)
		r := b.rooms[0]
		s := drawnText(rand.New(rand.NewSource(1)), n)
		old := b.put(0, s)
		begin, e := r.Read(old)
		says(t, e, api.OK)
		next, e := r.Read(b.want.blobs[old].pages[1])
		says(t, e, api.OK)
		says(t, r.Write(old, next[:1]+begin[1:]), api.OK)
		page, e := r.Alloc()
		says(t, e, api.OK)
		more := n + 506
		head := string([]byte{begin[0], byte(more >> 16), byte(more >> 8), byte(more), byte(old >> 8), byte(old)})
		says(t, r.Write(page, head+strings.Repeat("m", 506)), api.OK)
		says(t, agree(t, b, page), want)
		says(t, agree(t, b, old), api.ErrLost)
		if text, e := blob.Get(r, page); want == api.OK {
			tells(t, text, e, strings.Repeat("m", 506)+s, api.OK)
		}
	}
}

// P8.2, and P5.2 through it: a blob is there, behind Open, as its last Commit left it, or as the one that was broken off would have.
func TestBrokenCommit(t *testing.T) {
	for fuel, done := 0, false; !done; fuel++ {
		b := laid(t, 9, 1)
		older := b.put(0, strings.Repeat("o", 1200))
		b.commit()
		b.drop(0, older)
		newer := b.put(0, strings.Repeat("n", 2400))
		b.disk.Fuel(fuel)
		done = b.change.Commit() == api.OK
		b.disk.Fuel(-1)
		b.disk.Fall(nil)
		l, e := wal.Open(b.disk, ring)
		says(t, e, api.OK)
		if text, e := blob.Get(room.Of(tx.Begin(l)), newer); e == api.OK && strings.HasPrefix(text, "n") {
			b.marks[0].was = b.want.copied()
		} else if done {
			t.Fatal("what was committed isn't there")
		}
		b.reopen()
	}
}

// P0: a room as great as a disk may be, full of the greatest blobs, and then of the least ones: that ends soon.
func TestEndsSoon(t *testing.T) {
	start := time.Now()
	r := greatRoom(t)
	text := strings.Repeat("e", 131072)
	for _, s := range []string{text, "e"} {
		var list []int
		for {
			page, e := blob.Put(r, s)
			if e == api.ErrFull {
				break
			}
			says(t, e, api.OK)
			list = append(list, page)
		}
		if len(list) != r.Pages()/needs(len(s)) {
			t.Fatalf("%d blobs of %d bytes", len(list), len(s))
		}
		for k, page := range list {
			if k%50 == 0 {
				got, e := blob.Get(r, page)
				tells(t, got, e, s, api.OK)
			}
			says(t, blob.Drop(r, page), api.OK)
		}
		used, e := r.Used()
		tells(t, used, e, 0, api.OK)
	}
	if took := time.Since(start); took > time.Minute {
		t.Errorf("%v", took)
	}
}
