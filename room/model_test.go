package room_test

import (
	"math"
	"slices"
	"strings"
	"testing"

	"cooperage/api"
	"cooperage/room"
	"cooperage/sector"
	"cooperage/tx"
	"cooperage/wal"
)

// held: a room in the document's words: of each page whether it is taken, and what it holds then; the numbers.
type held struct {
	taken []bool
	texts []string
	roots [16]uint64
}

func nothing(pages int) *held {
	return &held{taken: make([]bool, pages), texts: make([]string, pages)}
}

func (h *held) copied() *held {
	return &held{slices.Clone(h.taken), slices.Clone(h.texts), h.roots}
}

func (h *held) has(page int) bool {
	return page >= 0 && page < len(h.taken)
}

func (h *held) used() int {
	used := 0
	for _, taken := range h.taken {
		if taken {
			used++
		}
	}
	return used
}

// padded: s with bytes 0 behind it, to 512.
func padded(s string) string {
	return s + strings.Repeat("\x00", 512-len(s))
}

// bitHomes: the least whole number that isn't below pages / 4096.
func bitHomes(pages int) int {
	least := 0
	for least*4096 < pages {
		least++
	}
	return least
}

// pagesOf: the greatest p of which 1 and p and the homes of its bits together are at most so many homes.
func pagesOf(homes int) int {
	for p := homes; p > 0; p-- {
		if 1+p+bitHomes(p) <= homes {
			return p
		}
	}
	return 0
}

// marked: a mark that was told, and what the room was then.
type marked struct {
	mark int
	was  *held
}

// bench: rooms of one change of a log, and the same in the document's words.
type bench struct {
	t      *testing.T
	disk   *sector.Disk
	log    *wal.Log
	change *tx.Tx
	rooms  []*room.Room
	homes  int
	down   bool
	want   *held
	marks  []marked // of what the change has, the first one of what the log has
	lately int      // a page that was asked for
}

// ring: sectors of the log's ring.
const ring = 16

// laid: rooms of a change of a log of so many homes, on a disk of noughts.
func laid(t *testing.T, homes, rooms int) *bench {
	t.Helper()
	d, e := sector.New(1 + ring + homes)
	says(t, e, api.OK)
	l, e := wal.Open(d, ring)
	says(t, e, api.OK)
	b := &bench{t: t, disk: d, log: l, change: tx.Begin(l), homes: homes, want: nothing(pagesOf(homes))}
	b.marks = []marked{{0, b.want.copied()}}
	for range rooms {
		b.rooms = append(b.rooms, room.Of(b.change))
	}
	return b
}

func says(t *testing.T, got, want api.Errno) {
	t.Helper()
	if got != want {
		t.Fatalf("%d, not %d", got, want)
	}
}

// tells: that a call told such a number, and such an error.
func tells[N comparable](t *testing.T, got N, e api.Errno, want N, wantErr api.Errno) {
	t.Helper()
	if got != want || e != wantErr {
		t.Fatalf("%v, %d, not %v, %d", got, e, want, wantErr)
	}
}

// holds: that Read told such a text, and such an error.
func holds(t *testing.T, r *room.Room, page int, want string, wantErr api.Errno) {
	t.Helper()
	if got, e := r.Read(page); got != want || e != wantErr {
		t.Fatalf("page %d: %d bytes %.20q, %d, not %.20q, %d", page, len(got), got, e, want, wantErr)
	}
}

// edges: pages of n, and numbers that are of none.
func edges(n int) []int {
	return []int{math.MinInt, math.MinInt32, -4096, -n, -1, 0, n / 2, n - 1, n, n + 1, n + 4096, 1 << 32, math.MaxInt}
}

// pages: those that check asks for: all, or, of many, those at the edges and one of which something was asked.
func (b *bench) pages() []int {
	list := edges(len(b.want.taken))
	if len(b.want.taken) <= 64 {
		for page := range b.want.taken {
			list = append(list, page)
		}
	}
	return append(list, b.lately-1, b.lately, b.lately+1, 4095, 4096, 4097)
}

// ofPage: OK, or the first error there is of a page.
func (b *bench) ofPage(page int) api.Errno {
	switch {
	case b.down:
		return api.ErrDown
	case !b.want.has(page):
		return api.ErrRange
	}
	return api.OK
}

// ofTaken: likewise, of one that is to be taken.
func (b *bench) ofTaken(page int) api.Errno {
	if e := b.ofPage(page); e != api.OK {
		return e
	}
	if !b.want.taken[page] {
		return api.ErrLost
	}
	return api.OK
}

// ofPlace: likewise, of a place.
func (b *bench) ofPlace(k int) api.Errno {
	switch {
	case b.down:
		return api.ErrDown
	case k < 0 || k > 15:
		return api.ErrRange
	}
	return api.OK
}

// check: that each room answers as in the document's words.
func (b *bench) check() {
	b.t.Helper()
	for _, r := range b.rooms {
		tells(b.t, r.Pages(), api.OK, len(b.want.taken), api.OK)
		tells(b.t, r.Mark(), api.OK, b.change.Mark(), api.OK)
		used, e := r.Used()
		if b.down {
			tells(b.t, used, e, 0, api.ErrDown)
		} else {
			tells(b.t, used, e, b.want.used(), api.OK)
		}
		for _, page := range b.pages() {
			b.checkPage(r, page)
		}
		for _, k := range []int{math.MinInt, -1, 0, 1, 2, 3, 4, 5, 6, 7, 8, 9, 10, 11, 12, 13, 14, 15, 16, 17, 63, 64, math.MaxInt} {
			n, e := r.Root(k)
			if want := b.ofPlace(k); want != api.OK {
				tells(b.t, n, e, 0, want)
			} else {
				tells(b.t, n, e, b.want.roots[k], api.OK)
			}
		}
	}
}

func (b *bench) checkPage(r *room.Room, page int) {
	b.t.Helper()
	has, e := r.Has(page)
	if want := b.ofPage(page); want != api.OK {
		tells(b.t, has, e, false, want)
	} else {
		tells(b.t, has, e, b.want.taken[page], api.OK)
	}
	if want := b.ofTaken(page); want != api.OK {
		holds(b.t, r, page, "", want)
	} else {
		holds(b.t, r, page, b.want.texts[page], api.OK)
	}
}

// took: that a call that was refused put nothing, and that all is as in the document's words.
func (b *bench) took(mark int, e api.Errno) {
	b.t.Helper()
	if e != api.OK && b.change.Mark() != mark {
		b.t.Fatalf("refused by %d, it put something", e)
	}
	b.check()
}

// alloc: by room k: the page.
func (b *bench) alloc(k int) int {
	b.t.Helper()
	want, wantErr := slices.Index(b.want.taken, false), api.OK
	switch {
	case b.down:
		want, wantErr = 0, api.ErrDown
	case want < 0:
		want, wantErr = 0, api.ErrFull
	default:
		b.want.taken[want], b.want.texts[want] = true, padded("")
	}
	mark := b.change.Mark()
	page, e := b.rooms[k].Alloc()
	tells(b.t, page, e, want, wantErr)
	b.lately = page
	b.took(mark, e)
	return page
}

// allocs: so many pages.
func (b *bench) allocs(n int) {
	b.t.Helper()
	for range n {
		b.alloc(0)
	}
}

func (b *bench) free(k, page int) {
	b.t.Helper()
	want := b.ofTaken(page)
	if want == api.OK {
		b.want.taken[page] = false
	}
	mark := b.change.Mark()
	says(b.t, b.rooms[k].Free(page), want)
	b.lately = page
	b.took(mark, want)
}

func (b *bench) write(k, page int, s string) {
	b.t.Helper()
	want := b.ofTaken(page)
	if want == api.OK && len(s) > 512 {
		want = api.ErrBig
	}
	if want == api.OK {
		b.want.texts[page] = padded(s)
	}
	mark := b.change.Mark()
	says(b.t, b.rooms[k].Write(page, s), want)
	b.lately = page
	b.took(mark, want)
}

func (b *bench) setRoot(k, place int, n uint64) {
	b.t.Helper()
	want := b.ofPlace(place)
	if want == api.OK {
		b.want.roots[place] = n
	}
	mark := b.change.Mark()
	says(b.t, b.rooms[k].SetRoot(place, n), want)
	b.took(mark, want)
}

// mark: what room k tells now, kept for back.
func (b *bench) mark(k int) int {
	b.t.Helper()
	mark := b.rooms[k].Mark()
	b.marks = append(b.marks, marked{mark, b.want.copied()})
	return mark
}

// back: to a mark that mark told, to one below 0, or to one behind all puts.
func (b *bench) back(k, mark int) {
	b.t.Helper()
	puts := b.change.Mark()
	b.rooms[k].Back(mark)
	tells(b.t, b.change.Mark(), api.OK, min(puts, max(mark, 0)), api.OK)
	if mark < puts {
		for len(b.marks) > 1 && b.marks[len(b.marks)-1].mark > mark {
			b.marks = b.marks[:len(b.marks)-1]
		}
		b.want = b.marks[len(b.marks)-1].was.copied()
	}
	b.check()
}

// commit: the change; what it has is what the log has then.
func (b *bench) commit() {
	b.t.Helper()
	if b.down {
		says(b.t, b.change.Commit(), api.ErrDown)
		return
	}
	says(b.t, b.change.Commit(), api.OK)
	b.marks = []marked{{0, b.want.copied()}}
	b.check()
}

// drop: the change; the room is as the log has it.
func (b *bench) drop() {
	b.t.Helper()
	b.change.Drop()
	b.marks = b.marks[:1]
	b.want = b.marks[0].was.copied()
	b.check()
}

// bringDown: brings the log down, by a step of its own.
func (b *bench) bringDown() {
	b.t.Helper()
	b.disk.Fuel(0)
	says(b.t, b.log.Commit([]api.Put{{At: 0, Text: "down"}}), api.ErrDown)
	b.down = true
	b.check()
}

// allHomes: what the change's homes hold.
func (b *bench) allHomes() []string {
	b.t.Helper()
	var list []string
	for i := range b.homes {
		s, e := b.change.Read(i)
		says(b.t, e, api.OK)
		list = append(list, s)
	}
	return list
}

// unlike: the homes that two lists have unlike.
func unlike(a, b []string) []int {
	var list []int
	for i := range a {
		if a[i] != b[i] {
			list = append(list, i)
		}
	}
	return list
}
