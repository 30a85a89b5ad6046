package room_test

import (
	"fmt"
	"math"
	"math/rand"
	"slices"
	"strings"
	"testing"
	"time"

	"cooperage/api"
	"cooperage/room"
	"cooperage/tx"
	"cooperage/wal"
)

// page: a drawn page: mostly one there is.
func (b *bench) page(source *rand.Rand) int {
	pages := len(b.want.taken)
	if source.Intn(10) == 0 {
		list := edges(pages)
		return list[source.Intn(len(list))]
	}
	return source.Intn(pages+2) - 1
}

// act: a drawn call of a drawn room.
func (b *bench) act(source *rand.Rand, n int) {
	b.t.Helper()
	k := source.Intn(len(b.rooms))
	switch source.Intn(20) {
	case 0, 1, 2, 3, 4, 5:
		b.alloc(k)
	case 6, 7, 8:
		b.free(k, b.page(source))
	case 9, 10, 11:
		b.write(k, b.page(source), strings.Repeat(fmt.Sprint(n, " "), 1+source.Intn(40)))
	case 12:
		b.write(k, b.page(source), strings.Repeat("w", 508+source.Intn(8)))
	case 13, 14:
		b.setRoot(k, source.Intn(18)-1, source.Uint64()>>source.Intn(64))
	case 15, 16:
		b.mark(k)
	case 17, 18:
		list := []int{-1, math.MaxInt}
		for _, m := range b.marks {
			list = append(list, m.mark, m.mark)
		}
		b.back(k, list[source.Intn(len(list))])
	default:
		if source.Intn(3) == 0 {
			b.drop()
		} else if b.change.Touched() < 12 {
			b.commit()
		}
	}
}

// P7.1: drawn calls of one room, of two and of three of one change, to the log's going down and behind it.
func TestDrawnActs(t *testing.T) {
	for _, homes := range []int{1, 2, 3, 4, 6, 10, 11, 20} {
		for rooms := 1; rooms <= 3; rooms++ {
			for seed := range 8 {
				source := rand.New(rand.NewSource(int64(seed)))
				b := laid(t, homes, rooms)
				for n := range 150 {
					b.act(source, n)
				}
				b.bringDown()
				for n := range 20 {
					b.act(source, n)
				}
			}
		}
	}
}

// P7.1: likewise of rooms that have more than one home of bits, with so many pages taken that what is drawn is on both sides.
func TestDrawnActsOfManyPages(t *testing.T) {
	for _, homes := range []int{4098, 4099, 4100, 4103, 4140} {
		for seed := range 3 {
			source := rand.New(rand.NewSource(int64(seed)))
			b := laid(t, homes, 2)
			for page := range 4094 {
				b.rooms[0].Alloc()
				b.want.taken[page], b.want.texts[page] = true, padded("")
			}
			says(t, b.change.Commit(), api.ErrBig)
			b.marks = []marked{{0, nothing(len(b.want.taken))}, {b.change.Mark(), b.want.copied()}}
			for n := range 200 {
				switch k := source.Intn(2); source.Intn(4) {
				case 0:
					b.act(source, n)
				case 1:
					b.alloc(k)
				case 2:
					b.free(k, 4080+source.Intn(homes-4080))
				case 3:
					b.write(k, 4080+source.Intn(homes-4080), fmt.Sprint("text ", n))
				}
			}
		}
	}
}

// P7.2: behind drawn takes and gives-back, of up to as many pages as there are, the room is as it was: which pages are taken, Used, the numbers, what pages hold that stayed taken, what the next Alloc answers, and the homes of numbers and of bits.
func TestTakenAndGivenBack(t *testing.T) {
	for _, homes := range []int{1, 2, 3, 4, 9, 10, 11, 70, 4098, 4099, 4100, 4170, 8300} {
		for seed := range 4 {
			source := rand.New(rand.NewSource(int64(seed)))
			b := laid(t, homes, 1)
			b.draw(source, seed)
			before := b.allHomes()
			next, nextErr := b.next()
			for range 3 {
				b.takeAndGiveBack(source)
				for page := range b.want.taken {
					b.checkPage(b.rooms[0], page)
				}
				b.check()
				n, e := b.next()
				tells(t, n, e, next, nextErr)
			}
			after := b.allHomes()
			pages := len(b.want.taken)
			for _, home := range unlike(before, after) {
				if page := home - 1 - bitHomes(pages); page < 0 || page >= pages || b.want.taken[page] {
					t.Fatalf("of %d homes: home %d has changed", homes, home)
				}
			}
		}
	}
}

// draw: drawn pages are taken, none of them for seed 0, all of them for seed 1; each of them holds something.
func (b *bench) draw(source *rand.Rand, seed int) {
	b.t.Helper()
	r := b.rooms[0]
	for page := range b.want.taken {
		r.Alloc()
		b.want.taken[page], b.want.texts[page] = true, padded(fmt.Sprint("page ", page))
		says(b.t, r.Write(page, fmt.Sprint("page ", page)), api.OK)
	}
	for page := range b.want.taken {
		if seed == 0 || seed > 1 && source.Intn(seed) > 0 {
			says(b.t, r.Free(page), api.OK)
			b.want.taken[page] = false
		}
	}
	for k := range 16 {
		b.setRoot(0, k, source.Uint64())
	}
}

// next: what the next Alloc answers; it is taken back.
func (b *bench) next() (int, api.Errno) {
	mark := b.rooms[0].Mark()
	page, e := b.rooms[0].Alloc()
	b.rooms[0].Back(mark)
	return page, e
}

// takeAndGiveBack: takes pages to the last one and gives them back, some between, in a drawn order.
func (b *bench) takeAndGiveBack(source *rand.Rand) {
	b.t.Helper()
	r, mine := b.rooms[0], []int{}
	giveBack := func() {
		b.t.Helper()
		at := source.Intn(len(mine))
		says(b.t, r.Free(mine[at]), api.OK)
		mine = slices.Delete(mine, at, at+1)
	}
	for {
		page, e := r.Alloc()
		if e == api.ErrFull {
			break
		}
		says(b.t, e, api.OK)
		says(b.t, r.Write(page, "taken"), api.OK)
		mine = append(mine, page)
		if source.Intn(3) == 0 {
			giveBack()
		}
	}
	used, e := r.Used()
	tells(b.t, used, e, len(b.want.taken), api.OK)
	for len(mine) > 0 {
		giveBack()
	}
}

// P7.2: likewise with Commits between, and of a log that is opened again.
func TestTakenAndGivenBackThroughCommits(t *testing.T) {
	for seed := range 20 {
		source := rand.New(rand.NewSource(int64(seed)))
		b := laid(t, 13, 1)
		b.allocs(source.Intn(6))
		if page := source.Intn(6); b.ofTaken(page) == api.OK {
			b.free(0, page)
		}
		b.commit()
		before := b.want.copied()
		var mine []int
		for range source.Intn(8) {
			if b.want.used() < len(b.want.taken) {
				mine = append(mine, b.alloc(0))
			}
			b.commit()
		}
		source.Shuffle(len(mine), func(i, k int) { mine[i], mine[k] = mine[k], mine[i] })
		for _, page := range mine {
			b.free(0, page)
			b.commit()
		}
		if !slices.Equal(b.want.taken, before.taken) {
			t.Fatal("the model isn't as it was")
		}
		b.reopen()
		b.alloc(0)
	}
}

// reopen: the log is opened again behind a fall, and the room is of a change of it.
func (b *bench) reopen() {
	b.t.Helper()
	b.disk.Fall(nil)
	l, e := wal.Open(b.disk, ring)
	says(b.t, e, api.OK)
	b.log, b.change, b.down = l, tx.Begin(l), false
	b.rooms = []*room.Room{room.Of(b.change)}
	b.marks = []marked{{0, b.want.copied()}}
	b.check()
}

// P7.1, and P5.2 through it: a room is there, behind Open, as its last Commit left it, or as the one that was broken off would have.
func TestBrokenCommit(t *testing.T) {
	for fuel, done := 0, false; !done; fuel++ {
		b := laid(t, 9, 1)
		b.allocs(3)
		b.write(0, 1, "older")
		b.setRoot(0, 2, 2)
		b.commit()
		older := b.want.copied()
		b.free(0, 0)
		b.write(0, 1, "newer")
		b.alloc(0)
		b.alloc(0)
		b.setRoot(0, 2, 3)
		b.disk.Fuel(fuel)
		done = b.change.Commit() == api.OK
		b.disk.Fuel(-1)
		b.disk.Fall(nil)
		l, e := wal.Open(b.disk, ring)
		says(t, e, api.OK)
		if n, _ := room.Of(tx.Begin(l)).Root(2); n == 2 && !done {
			b.want = older
		}
		b.reopen()
	}
}

// P0: a room as great as a disk may be: each page is taken, given back, and taken again, and that ends soon.
func TestEndsSoon(t *testing.T) {
	start := time.Now()
	d := laid(t, api.MaxSectors-1-ring, 1)
	r := d.rooms[0]
	pages := r.Pages()
	if pages != room.Pages(api.MaxSectors-1-ring) || bitHomes(pages) != 16 {
		t.Fatalf("%d pages", pages)
	}
	for page := range pages {
		got, e := r.Alloc()
		tells(t, got, e, page, api.OK)
	}
	got, e := r.Alloc()
	tells(t, got, e, 0, api.ErrFull)
	used, e := r.Used()
	tells(t, used, e, pages, api.OK)
	order := rand.New(rand.NewSource(1)).Perm(pages)
	for _, page := range order {
		says(t, r.Free(page), api.OK)
	}
	used, e = r.Used()
	tells(t, used, e, 0, api.OK)
	d.check()
	if took := time.Since(start); took > time.Minute {
		t.Errorf("%v", took)
	}
}
