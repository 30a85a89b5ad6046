package room_test

import (
	"fmt"
	"math"
	"slices"
	"strings"
	"testing"
	"unsafe"

	"cooperage/api"
	"cooperage/room"
	"cooperage/tx"
	"cooperage/wal"
)

// long: one byte more than a page holds.
var long = strings.Repeat("l", 513)

// sizes: of rooms, in homes: of no pages, of one, of few, of more than one home of bits keeps, of one home that is no page.
var sizes = []int{1, 2, 3, 4, 9, 10, 11, 40, 4097, 4098, 4099, 4100, 4101, 8300}

// P7.1, Pages: of each number up to 2^20, the greatest p that the document's words allow.
func TestPagesOfEachNumber(t *testing.T) {
	p, bits := 0, 0
	for homes := range 1<<20 + 1 {
		for {
			next, nextBits := p+1, bits
			if nextBits*4096 < next {
				nextBits++
			}
			if 1+next+nextBits > homes {
				break
			}
			p, bits = next, nextBits
		}
		if got := room.Pages(homes); got != p {
			t.Fatalf("%d homes: %d, not %d", homes, got, p)
		}
	}
	for homes, want := range map[int]int{1<<20 + 1: p, 1<<20 + 4097: p, 1 << 21: p, math.MaxInt32: p, math.MaxInt - 4096: p, math.MaxInt: p} {
		if got := room.Pages(homes); got != want {
			t.Errorf("%d homes: %d, not %d", homes, got, want)
		}
	}
}

// P7.1, Pages: at the edges that the document names, in numbers.
func TestPagesAtEdges(t *testing.T) {
	for homes, want := range map[int]int{
		math.MinInt: 0, math.MinInt32: 0, -4097: 0, -2: 0, -1: 0, 0: 0, 1: 0, 2: 0, 3: 1, 4: 2,
		4097: 4095, 4098: 4096, 4099: 4096, 4100: 4097,
		8194: 8191, 8195: 8192, 8196: 8192, 8197: 8193,
		1 + 4097*16: 65536, 2 + 4097*16: 65536, 3 + 4097*16: 65537,
		1<<20 - 1: 1048318, 1 << 20: 1048319, 1<<20 + 1: 1048319, math.MaxInt: 1048319,
	} {
		if got := room.Pages(homes); got != want {
			t.Errorf("%d homes: %d, not %d", homes, got, want)
		}
	}
}

// P7.1: a room of a log of noughts: as many pages as its homes have, all free, all numbers 0.
func TestRoomOfNoughts(t *testing.T) {
	for _, homes := range sizes {
		b := laid(t, homes, 1)
		tells(t, b.rooms[0].Pages(), api.OK, room.Pages(homes), api.OK)
		b.check()
	}
}

// P7.1, Of: each room is a view of the change: it has no puts of its own, and what the change has shows in it.
func TestOf(t *testing.T) {
	b := laid(t, 9, 1)
	b.alloc(0)
	b.write(0, 0, "text")
	b.setRoot(0, 3, 4)
	late := room.Of(b.change)
	if late == b.rooms[0] {
		t.Error("one room, not two")
	}
	b.rooms = append(b.rooms, late)
	b.check()
	b.commit()
	b.rooms = append(b.rooms, room.Of(tx.Begin(b.log)))
	b.rooms[2].Used()
	b.change.Drop()
	b.check()
}

// P7.1, the document's words: the first home keeps the numbers, then come the homes of the bits, then the pages by their numbers; a call changes no other ones.
func TestWhichHomesAreChanged(t *testing.T) {
	for _, homes := range []int{3, 4, 9, 4099, 4110} {
		b := laid(t, homes, 1)
		pages := b.rooms[0].Pages()
		bits := bitHomes(pages)
		before := b.allHomes()
		changed := func(want func(home int) bool) {
			t.Helper()
			now := b.allHomes()
			for _, home := range unlike(before, now) {
				if !want(home) {
					t.Fatalf("of %d homes: home %d has changed", homes, home)
				}
			}
			before = now
		}
		isBits := func(home int) bool { return home >= 1 && home < 1+bits }
		for page := range pages {
			b.rooms[0].Alloc()
			b.want.taken[page], b.want.texts[page] = true, padded("")
		}
		changed(isBits)
		for _, page := range []int{0, pages / 2, pages - 1} {
			isPage := func(home int) bool { return home == 1+bits+page }
			b.write(0, page, "text")
			changed(isPage)
			s, e := b.change.Read(1 + bits + page)
			tells(t, s, e, padded("text"), api.OK)
			b.free(0, page)
			changed(isBits)
			b.alloc(0)
			changed(func(home int) bool { return isBits(home) || isPage(home) })
		}
		for k := range 16 {
			b.setRoot(0, k, math.MaxUint64)
			changed(func(home int) bool { return home == 0 })
		}
	}
}

// P7.1, Alloc: the first page, and so on to the last one; then ErrFull; behind Free of one that one; and each time noughts.
func TestAllocToTheLastPage(t *testing.T) {
	for _, homes := range sizes {
		b := laid(t, homes, 1)
		pages := len(b.want.taken)
		for page := range pages {
			tells(t, b.alloc(0), api.OK, page, api.OK)
		}
		for range 3 {
			b.alloc(0)
			_, e := b.rooms[0].Alloc()
			says(t, e, api.ErrFull)
		}
		for _, page := range []int{pages - 1, 0, pages / 2, min(4095, pages-1), min(4096, pages-1)} {
			if !b.want.has(page) {
				continue
			}
			b.write(0, page, strings.Repeat("w", 512))
			b.free(0, page)
			tells(t, b.alloc(0), api.OK, page, api.OK)
			holds(t, b.rooms[0], page, padded(""), api.OK)
			b.alloc(0)
		}
	}
}

// P7.1, Alloc: of several that are free the least number, in whatever order they were given back.
func TestAllocTellsTheLeast(t *testing.T) {
	for _, order := range [][]int{{3}, {0, 9}, {9, 0}, {5, 4, 3}, {8, 7, 15, 16, 9}, {30, 31, 0, 1}, {4096, 4095, 4100, 17}} {
		b := laid(t, 4200, 1)
		b.allocs(4110)
		for _, page := range order {
			b.free(0, page)
		}
		slices.Sort(order)
		for _, page := range append(order, 4110, 4111) {
			tells(t, b.alloc(0), api.OK, page, api.OK)
		}
	}
}

// P7.1, Alloc: what it answers holds noughts, whatever the page held: in this change, in the log, and however the homes came to it.
func TestAllocHoldsNoughts(t *testing.T) {
	b := laid(t, 12, 1)
	b.allocs(3)
	for page := range 3 {
		b.write(0, page, strings.Repeat("h", 512))
	}
	b.free(0, 1)
	b.alloc(0)
	b.write(0, 1, strings.Repeat("h", 512))
	b.commit()
	for page := range 3 {
		b.free(0, page)
	}
	b.commit()
	b.allocs(3)
	b.drop()
	// A page that was never taken, of whose home somebody else made something.
	for home := 2; home < 12; home++ {
		says(t, b.change.Write(home, strings.Repeat("o", 512)), api.OK)
	}
	says(t, b.change.Commit(), api.OK)
	b.allocs(10)
}

// P7.1, Back and Alloc: at whatever number of puts the change is taken back to, a page that is taken behind Alloc holds noughts, and Used is how many are.
func TestBackToAnyNumber(t *testing.T) {
	for mark := -1; mark < 12; mark++ {
		b := laid(t, 8, 1)
		for home := 2; home < 8; home++ {
			says(t, b.change.Write(home, strings.Repeat("o", 512)), api.OK)
		}
		says(t, b.change.Commit(), api.OK)
		r := b.rooms[0]
		for range 4 {
			r.Alloc()
		}
		r.Back(mark)
		count := 0
		for page := range r.Pages() {
			if has, _ := r.Has(page); has {
				count++
				holds(t, r, page, padded(""), api.OK)
			}
		}
		used, e := r.Used()
		tells(t, used, e, count, api.OK)
		if count < 4 {
			page, e := r.Alloc()
			tells(t, page, e, count, api.OK)
			holds(t, r, page, padded(""), api.OK)
		}
	}
}

// P7.1: Free, Has, Read and Write of pages there are and of others, taken ones and free ones.
func TestPagesAtEachEdge(t *testing.T) {
	for _, homes := range sizes {
		b := laid(t, homes, 1)
		pages := len(b.want.taken)
		refused := func() {
			t.Helper()
			for _, page := range edges(pages) {
				for _, s := range []string{"", "w", strings.Repeat("w", 512), long} {
					b.write(0, page, s)
				}
				b.free(0, page)
			}
		}
		refused()
		for page := range pages {
			b.rooms[0].Alloc()
			b.want.taken[page], b.want.texts[page] = true, padded("")
		}
		for _, page := range edges(pages) {
			for _, s := range []string{"w", "", strings.Repeat("w", 512), long, "x"} {
				b.write(0, page, s)
			}
			b.free(0, page)
			b.free(0, page)
			b.write(0, page, "y")
			b.write(0, page, long)
		}
		b.free(0, -1)
		b.free(0, pages)
	}
}

// P7.1: of one room, step by step, in numbers, beside the model.
func TestStepByStep(t *testing.T) {
	b := laid(t, 5, 1)
	r := b.rooms[0]
	is := func(taken ...bool) {
		t.Helper()
		used := 0
		for page, want := range taken {
			has, e := r.Has(page)
			tells(t, has, e, want, api.OK)
			if want {
				used++
			}
		}
		n, e := r.Used()
		tells(t, n, e, used, api.OK)
	}
	is(false, false, false)
	says(t, r.Free(0), api.ErrLost)
	says(t, r.Write(0, "a"), api.ErrLost)
	holds(t, r, 0, "", api.ErrLost)
	_, e := r.Alloc()
	says(t, e, api.OK)
	_, e = r.Alloc()
	says(t, e, api.OK)
	is(true, true, false)
	says(t, r.Write(0, "a"), api.OK)
	says(t, r.Write(1, "b"), api.OK)
	says(t, r.Write(2, "c"), api.ErrLost)
	says(t, r.Write(3, "d"), api.ErrRange)
	holds(t, r, 0, padded("a"), api.OK)
	holds(t, r, 1, padded("b"), api.OK)
	says(t, r.Free(0), api.OK)
	says(t, r.Free(0), api.ErrLost)
	says(t, r.Free(3), api.ErrRange)
	says(t, r.Free(-1), api.ErrRange)
	is(false, true, false)
	holds(t, r, 0, "", api.ErrLost)
	page, e := r.Alloc()
	tells(t, page, e, 0, api.OK)
	holds(t, r, 0, padded(""), api.OK)
	page, e = r.Alloc()
	tells(t, page, e, 2, api.OK)
	page, e = r.Alloc()
	tells(t, page, e, 0, api.ErrFull)
	is(true, true, true)
	for page := range 3 {
		says(t, r.Free(page), api.OK)
	}
	is(false, false, false)
}

// P7.1, Write: texts of each length, over longer and shorter ones, of any bytes.
func TestTextsOfEachLength(t *testing.T) {
	lengths := []int{512, 0, 511, 1, 512, 2, 256, 0, 510}
	b := laid(t, 8, 1)
	b.allocs(3)
	for _, n := range lengths {
		text := make([]byte, n)
		for i := range text {
			text[i] = byte(255 - i - n)
		}
		b.write(0, 1, string(text))
		for _, more := range []int{513, 514, 1024, 1 << 20} {
			b.write(0, 1, strings.Repeat("m", more))
		}
		holds(t, b.rooms[0], 1, padded(string(text)), api.OK)
		b.commit()
	}
	holds(t, b.rooms[0], 0, padded(""), api.OK)
	holds(t, b.rooms[0], 2, padded(""), api.OK)
}

// P7.1, Root and SetRoot: each place has its own number, of any size; of other places there is none.
func TestRoots(t *testing.T) {
	numbers := []uint64{0, 1, 255, 256, 1 << 31, 1 << 32, 1<<63 - 1, 1 << 63, math.MaxUint64 - 1, math.MaxUint64, 0x0123456789abcdef, 0}
	for _, homes := range []int{1, 2, 3, 4100} {
		b := laid(t, homes, 1)
		for _, n := range numbers {
			for _, k := range []int{math.MinInt, -16, -1, 0, 1, 7, 8, 14, 15, 16, 17, 63, 64, 1 << 32, math.MaxInt} {
				b.setRoot(0, k, n)
			}
		}
		for k := range 16 {
			b.setRoot(0, k, uint64(k)<<60+uint64(k)*1000003)
		}
		for k := range 16 {
			n, e := b.rooms[0].Root(k)
			tells(t, n, e, uint64(k)<<60+uint64(k)*1000003, api.OK)
		}
		b.commit()
		b.setRoot(0, 15, 1)
		b.drop()
	}
}

// R1: of several errors the first one in the chapter's order; R3: each call that is refused has changed nothing, not even a put.
func TestRefusedChangesNothing(t *testing.T) {
	b := laid(t, 6, 1)
	b.allocs(4)
	b.write(0, 0, "zero")
	b.write(0, 3, "three")
	b.free(0, 2)
	b.setRoot(0, 15, 9)
	r := b.rooms[0]
	before, mark, touched := b.allHomes(), r.Mark(), b.change.Touched()
	refused := func(e, want api.Errno) {
		t.Helper()
		says(t, e, want)
		if len(unlike(before, b.allHomes())) > 0 || r.Mark() != mark || b.change.Touched() != touched {
			t.Fatal("something has changed")
		}
	}
	for _, page := range []int{math.MinInt, -1, 4, 5, math.MaxInt} {
		refused(r.Free(page), api.ErrRange)
		refused(r.Write(page, "w"), api.ErrRange)
		refused(r.Write(page, long), api.ErrRange)
		has, e := r.Has(page)
		tells(t, has, e, false, api.ErrRange)
		holds(t, r, page, "", api.ErrRange)
	}
	refused(r.Free(2), api.ErrLost)
	refused(r.Write(2, "w"), api.ErrLost)
	refused(r.Write(2, long), api.ErrLost)
	holds(t, r, 2, "", api.ErrLost)
	refused(r.Write(0, long), api.ErrBig)
	refused(r.Write(3, strings.Repeat("l", 1<<16)), api.ErrBig)
	for _, k := range []int{math.MinInt, -1, 16, math.MaxInt} {
		refused(r.SetRoot(k, 7), api.ErrRange)
		n, e := r.Root(k)
		tells(t, n, e, 0, api.ErrRange)
	}
	b.alloc(0)
	before, mark, touched = b.allHomes(), r.Mark(), b.change.Touched()
	page, e := r.Alloc()
	tells(t, page, e, 0, api.ErrFull)
	refused(e, api.ErrFull)
}

// R3: what only looks puts nothing.
func TestLooksChangeNothing(t *testing.T) {
	b := laid(t, 6, 1)
	b.allocs(2)
	before, mark := b.allHomes(), b.change.Mark()
	b.disk.Fuel(0)
	b.check()
	if b.disk.Down() || len(unlike(before, b.allHomes())) > 0 || b.change.Mark() != mark {
		t.Error("something has changed")
	}
}

// P7.1, Used: behind each call, of pages on both sides of a home of bits, and of a number of pages that isn't one of whole bytes.
func TestUsed(t *testing.T) {
	for _, homes := range []int{3, 9, 10, 11, 4100, 4101, 4110} {
		b := laid(t, homes, 1)
		r := b.rooms[0]
		uses := func(want int) {
			t.Helper()
			n, e := r.Used()
			tells(t, n, e, want, api.OK)
		}
		uses(0)
		for page := range r.Pages() {
			r.Alloc()
			uses(page + 1)
		}
		r.Alloc()
		uses(r.Pages())
		for page := range r.Pages() {
			says(t, r.Free(page), api.OK)
			uses(r.Pages() - page - 1)
		}
		says(t, r.Free(0), api.ErrLost)
		uses(0)
	}
}

// P7.1: bits that are no page's count for nothing, should somebody else have put them.
func TestBitsOfNoPage(t *testing.T) {
	for _, homes := range []int{3, 9, 10, 11, 4100} {
		b := laid(t, homes, 1)
		bits := bitHomes(len(b.want.taken))
		for home := range bits {
			says(t, b.change.Write(1+home, strings.Repeat("\xff", 512)), api.OK)
		}
		used, e := b.rooms[0].Used()
		tells(t, used, e, len(b.want.taken), api.OK)
		page, e := b.rooms[0].Alloc()
		tells(t, page, e, 0, api.ErrFull)
		last := len(b.want.taken) - 1
		says(t, b.rooms[0].Free(last), api.OK)
		used, e = b.rooms[0].Used()
		tells(t, used, e, last, api.OK)
		page, e = b.rooms[0].Alloc()
		tells(t, page, e, last, api.OK)
	}
}

// P7.1, Mark and Back: the change's; over each call that changes a room, to what it was.
func TestMarkAndBack(t *testing.T) {
	calls := map[string]func(b *bench){
		"nothing":          func(b *bench) {},
		"Alloc":            func(b *bench) { b.alloc(0) },
		"Alloc to the end": func(b *bench) { b.allocs(9) },
		"Free":             func(b *bench) { b.free(0, 1) },
		"Free, Alloc":      func(b *bench) { b.free(0, 0); b.free(0, 1); b.allocs(3) },
		"Write":            func(b *bench) { b.write(0, 1, "behind the mark"); b.write(0, 0, "") },
		"SetRoot":          func(b *bench) { b.setRoot(0, 0, 5); b.setRoot(0, 15, 6); b.setRoot(0, 7, math.MaxUint64) },
		"refused":          func(b *bench) { b.free(0, 5); b.write(0, -1, ""); b.setRoot(0, 16, 1) },
		"all": func(b *bench) {
			b.alloc(0)
			b.write(0, 2, "two")
			b.setRoot(0, 3, 3)
			b.free(0, 1)
			b.alloc(0)
		},
	}
	for name, call := range calls {
		t.Run(name, func(t *testing.T) {
			b := laid(t, 8, 2)
			b.allocs(2)
			b.write(0, 0, "ahead of all marks")
			b.setRoot(0, 7, 7)
			b.commit()
			b.write(0, 0, "ahead of the mark")
			b.write(0, 1, "one")
			for range 3 {
				mark := b.mark(0)
				tells(t, mark, api.OK, b.change.Mark(), api.OK)
				before := b.allHomes()
				call(b)
				b.back(1, math.MaxInt)
				b.back(0, b.change.Mark())
				call(b)
				b.back(0, mark)
				b.back(0, mark)
				if got := unlike(before, b.allHomes()); len(got) > 0 {
					t.Errorf("homes %d", got)
				}
				tells(t, b.rooms[1].Mark(), api.OK, mark, api.OK)
				call(b)
			}
			b.mark(1)
			call(b)
			b.change.Back(b.marks[1].mark)
			b.rooms[0].Back(b.change.Mark())
			b.want, b.marks = b.marks[1].was.copied(), b.marks[:2]
			b.check()
			b.back(0, -1)
			call(b)
			b.back(0, math.MinInt)
			tells(t, b.rooms[0].Mark(), api.OK, 0, api.OK)
			b.commit()
		})
	}
}

// P7.1: two rooms of one change are one room.
func TestTwoRoomsOfOneChange(t *testing.T) {
	b := laid(t, 9, 3)
	tells(t, b.alloc(0), api.OK, 0, api.OK)
	tells(t, b.alloc(1), api.OK, 1, api.OK)
	b.write(2, 0, "by the third one")
	b.write(0, 0, "by the first one")
	b.setRoot(1, 4, 44)
	mark := b.mark(2)
	b.free(1, 0)
	tells(t, b.alloc(2), api.OK, 0, api.OK)
	b.setRoot(0, 4, 45)
	b.back(1, mark)
	b.free(0, 1)
	b.free(1, 1)
	b.commit()
	b.free(2, 0)
	b.drop()
}

// P6.2 through it: rooms of two changes of one log know nothing of one another ahead of Commit.
func TestRoomsOfTwoChanges(t *testing.T) {
	b := laid(t, 9, 1)
	other := tx.Begin(b.log)
	b.allocs(2)
	b.write(0, 0, "text")
	b.setRoot(0, 2, 3)
	r := room.Of(other)
	used, e := r.Used()
	tells(t, used, e, 0, api.OK)
	n, e := r.Root(2)
	tells(t, n, e, 0, api.OK)
	holds(t, r, 0, "", api.ErrLost)
	page, e := r.Alloc()
	tells(t, page, e, 0, api.OK)
	holds(t, r, 0, padded(""), api.OK)
	b.check()
	other.Drop()
	b.commit()
	used, e = r.Used()
	tells(t, used, e, 2, api.OK)
	n, e = r.Root(2)
	tells(t, n, e, 3, api.OK)
	holds(t, r, 0, padded("text"), api.OK)
	page, e = r.Alloc()
	tells(t, page, e, 2, api.OK)
}

// P7.1: of a log that has gone down each call answers ErrDown, ahead of all other errors, and nothing else; Pages, Mark and Back are the change's.
func TestLogThatIsDown(t *testing.T) {
	for _, homes := range []int{1, 2, 3, 8, 4100} {
		b := laid(t, homes, 2)
		pages := len(b.want.taken)
		if pages > 0 {
			b.alloc(0)
			b.write(0, 0, "text")
			b.commit()
			b.write(0, 0, "again")
		}
		b.setRoot(0, 1, 1)
		mark := b.mark(0)
		b.setRoot(0, 1, 2)
		b.bringDown()
		for k := range b.rooms {
			b.alloc(k)
			for _, page := range edges(pages) {
				b.free(k, page)
				b.write(k, page, "w")
				b.write(k, page, long)
			}
			for _, place := range []int{math.MinInt, -1, 0, 15, 16, math.MaxInt} {
				b.setRoot(k, place, 7)
			}
		}
		tells(t, b.rooms[0].Mark(), api.OK, mark+1, api.OK)
		b.back(0, mark)
		b.commit()
		b.back(1, -1)
		tells(t, b.rooms[0].Mark(), api.OK, 0, api.OK)
		late := room.Of(tx.Begin(b.log))
		_, e := late.Used()
		says(t, e, api.ErrDown)
		tells(t, late.Pages(), api.OK, pages, api.OK)
	}
}

// P7.1: of a full room, too.
func TestDownAheadOfFull(t *testing.T) {
	for _, homes := range []int{1, 3, 5} {
		b := laid(t, homes, 1)
		b.allocs(len(b.want.taken) + 1)
		b.bringDown()
		b.alloc(0)
	}
}

// R2: a nil room, a room of a nil change, and those of changes and logs that are none: 0, ErrDown, nothing.
func TestNil(t *testing.T) {
	list := map[string]*room.Room{
		"a nil room":            nil,
		"a zero room":           {},
		"of a nil change":       room.Of(nil),
		"of a zero change":      room.Of(&tx.Tx{}),
		"of one of a nil log":   room.Of(tx.Begin(nil)),
		"of one of a zero log":  room.Of(tx.Begin(&wal.Log{})),
		"of one of a log there": laidDown(t),
	}
	for name, r := range list {
		t.Run(name, func(t *testing.T) {
			for range 2 {
				tells(t, r.Pages(), api.OK, 0, api.OK)
				page, e := r.Alloc()
				tells(t, page, e, 0, api.ErrDown)
				used, e := r.Used()
				tells(t, used, e, 0, api.ErrDown)
				for _, i := range edges(3) {
					says(t, r.Free(i), api.ErrDown)
					has, e := r.Has(i)
					tells(t, has, e, false, api.ErrDown)
					holds(t, r, i, "", api.ErrDown)
					says(t, r.Write(i, ""), api.ErrDown)
					says(t, r.Write(i, long), api.ErrDown)
					n, e := r.Root(i)
					tells(t, n, e, 0, api.ErrDown)
					says(t, r.SetRoot(i, 1), api.ErrDown)
					r.Back(i)
				}
				tells(t, r.Mark(), api.OK, 0, api.OK)
			}
		})
	}
}

// laidDown: a room of no pages, whose log is down.
func laidDown(t *testing.T) *room.Room {
	t.Helper()
	b := laid(t, 2, 1)
	b.bringDown()
	return b.rooms[0]
}

// R4: what a call hands out or takes is shared with nothing.
func TestSharesNothing(t *testing.T) {
	b := laid(t, 8, 2)
	b.allocs(2)
	taken := []byte(strings.Repeat("t", 512))
	given := unsafe.String(unsafe.SliceData(taken), len(taken))
	says(t, b.rooms[0].Write(0, given), api.OK)
	says(t, b.rooms[0].Write(1, given[:100]), api.OK)
	for i := range taken {
		taken[i] = 'x'
	}
	want := []string{strings.Repeat("t", 512), padded(strings.Repeat("t", 100)), padded("")}
	b.want.texts[0], b.want.texts[1] = want[0], want[1]
	b.alloc(1)
	for round := range 3 {
		for page, text := range want {
			for _, r := range b.rooms {
				got, e := r.Read(page)
				tells(t, got, e, text, api.OK)
				// The caller's own: whoever could write there would change nobody else's.
				for k := range len(got) {
					*(*byte)(unsafe.Add(unsafe.Pointer(unsafe.StringData(got)), k)) = 'y'
				}
			}
			b.check()
		}
		if round == 1 {
			b.commit()
		}
	}
}

// R7: the same calls leave the same homes, by whichever rooms of the change, and whatever was done and taken back between.
func TestSameCallsSameHomes(t *testing.T) {
	homes := func(rooms int, between bool) []string {
		b := laid(t, 24, rooms)
		for n := range 60 {
			k := n % rooms
			if between {
				mark := b.mark(k)
				b.alloc(k)
				b.setRoot(k, n%16, 1<<40)
				b.back(k, mark)
			}
			switch n % 5 {
			case 0, 1:
				b.alloc(k)
			case 2:
				b.write(k, n/4, fmt.Sprint("text ", n))
			case 3:
				b.setRoot(k, n%16, uint64(n))
			case 4:
				b.free(k, n/8)
			}
			if n%20 == 19 {
				b.commit()
			}
		}
		return b.allHomes()
	}
	want := homes(1, false)
	for range 3 {
		for _, rooms := range []int{1, 2, 3} {
			for _, between := range []bool{false, true} {
				if got := unlike(want, homes(rooms, between)); len(got) > 0 {
					t.Fatalf("homes %d", got)
				}
			}
		}
	}
}

// The document's example.
func TestExample(t *testing.T) {
	b := laid(t, 8, 1)
	r := b.rooms[0]
	tells(t, b.alloc(0), api.OK, 0, api.OK)
	tells(t, b.alloc(0), api.OK, 1, api.OK)
	says(t, r.Free(0), api.OK)
	page, e := r.Alloc()
	tells(t, page, e, 0, api.OK)
}
