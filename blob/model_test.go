package blob_test

import (
	"maps"
	"math"
	"math/rand"
	"slices"
	"strings"
	"testing"

	"cooperage/api"
	"cooperage/blob"
	"cooperage/room"
	"cooperage/sector"
	"cooperage/tx"
	"cooperage/wal"
)

// kept: a blob: its text, and the numbers of its pages.
type kept struct {
	text  string
	pages []int
}

// held: a room in the document's words: the blobs by their first pages, and the pages that somebody else has taken, with what they hold.
type held struct {
	pages  int
	blobs  map[int]kept
	others map[int]string
}

func (h *held) copied() *held {
	return &held{h.pages, maps.Clone(h.blobs), maps.Clone(h.others)}
}

// taken: of each page, whether it is taken; a page of two blobs, or of one and of somebody else, is a fault.
func (h *held) taken(t *testing.T) map[int]bool {
	t.Helper()
	taken := map[int]bool{}
	take := func(page int) {
		t.Helper()
		if taken[page] || page < 0 || page >= h.pages {
			t.Fatalf("page %d stands in two places, or isn't there", page)
		}
		taken[page] = true
	}
	for _, one := range h.blobs {
		for _, page := range one.pages {
			take(page)
		}
	}
	for page := range h.others {
		take(page)
	}
	return taken
}

func (h *held) free(t *testing.T) int {
	t.Helper()
	return h.pages - len(h.taken(t))
}

// firsts: the first pages of the blobs, rising.
func (h *held) firsts() []int {
	return slices.Sorted(maps.Keys(h.blobs))
}

// needs: the least whole number that isn't below n / 506, and 1 at least.
func needs(n int) int {
	least := 1
	for least*506 < n {
		least++
	}
	return least
}

// padded: s with bytes 0 behind it, to 512.
func padded(s string) string {
	return s + strings.Repeat("\x00", 512-len(s))
}

// drawnText: n bytes of any kind.
func drawnText(source *rand.Rand, n int) string {
	text := make([]byte, n)
	source.Read(text)
	return string(text)
}

// marked: a mark that was told, and what the room was then.
type marked struct {
	mark int
	was  *held
}

// bench: rooms of one change of a log, and the same in the document's words.
type bench struct {
	t      *testing.T
	disk   *sector.Disk
	log    *wal.Log
	change *tx.Tx
	rooms  []*room.Room
	homes  int
	down   bool
	want   *held
	marks  []marked // of what the change has, the first one of what the log has
}

// ring: sectors of the log's ring: enough for a change of the greatest blob.
const ring = 340

// laid: rooms of a change of a log of so many pages, up to 4096, on a disk of noughts.
func laid(t *testing.T, pages, rooms int) *bench {
	t.Helper()
	homes := pages + 2
	d, e := sector.New(1 + ring + homes)
	says(t, e, api.OK)
	l, e := wal.Open(d, ring)
	says(t, e, api.OK)
	b := &bench{t: t, disk: d, log: l, change: tx.Begin(l), homes: homes}
	b.want = &held{pages, map[int]kept{}, map[int]string{}}
	b.marks = []marked{{0, b.want.copied()}}
	for range rooms {
		b.rooms = append(b.rooms, room.Of(b.change))
	}
	if got := b.rooms[0].Pages(); got != pages {
		t.Fatalf("%d pages, not %d", got, pages)
	}
	return b
}

func says(t *testing.T, got, want api.Errno) {
	t.Helper()
	if got != want {
		t.Fatalf("%d, not %d", got, want)
	}
}

// tells: that a call told such a thing, and such an error.
func tells[V comparable](t *testing.T, got V, e api.Errno, want V, wantErr api.Errno) {
	t.Helper()
	if got != want || e != wantErr {
		t.Fatalf("%.40v, %d, not %.40v, %d", got, e, want, wantErr)
	}
}

// lists: that List told such numbers, and such an error.
func lists(t *testing.T, r *room.Room, page int, want []int, wantErr api.Errno) {
	t.Helper()
	if got, e := blob.List(r, page); !slices.Equal(got, want) || e != wantErr {
		t.Fatalf("page %d: %v, %d, not %v, %d", page, got, e, want, wantErr)
	}
}

// edges: numbers of pages there are, and of none.
func (b *bench) edges() []int {
	n := b.want.pages
	return []int{math.MinInt, math.MinInt32, -n, -1, 0, n / 2, n - 1, n, n + 1, n + 4096, 1 << 32, math.MaxInt}
}

// asked: the pages that check asks for: those at the edges, the blobs' first ones, and, of few, all.
func (b *bench) asked() []int {
	list := append(b.edges(), b.want.firsts()...)
	if b.want.pages <= 64 {
		for page := range b.want.pages {
			list = append(list, page)
		}
	}
	return list
}

// ofPage: OK, if a blob begins there, or the first error there is. (The tests lay nothing that is no blob and looks like one.)
func (b *bench) ofPage(page int) api.Errno {
	_, begins := b.want.blobs[page]
	switch {
	case b.down:
		return api.ErrDown
	case page < 0 || page >= b.want.pages:
		return api.ErrRange
	case !begins:
		return api.ErrLost
	}
	return api.OK
}

// check: that all is as in the document's words, by each room.
func (b *bench) check() {
	b.t.Helper()
	for _, r := range b.rooms {
		for _, page := range b.asked() {
			want, e := b.want.blobs[page], b.ofPage(page)
			if e != api.OK {
				want = kept{}
			}
			text, got := blob.Get(r, page)
			tells(b.t, text, got, want.text, e)
			lists(b.t, r, page, want.pages, e)
		}
		if b.down {
			continue
		}
		taken := b.want.taken(b.t)
		used, e := r.Used()
		tells(b.t, used, e, len(taken), api.OK)
		for page := range b.want.pages {
			has, e := r.Has(page)
			tells(b.t, has, e, taken[page], api.OK)
		}
		for page, text := range b.want.others {
			got, e := r.Read(page)
			tells(b.t, got, e, text, api.OK)
		}
	}
}

// put: by room k: the first page.
func (b *bench) put(k int, s string) int {
	b.t.Helper()
	want := api.OK
	switch {
	case b.down:
		want = api.ErrDown
	case len(s) > 131072:
		want = api.ErrBig
	case needs(len(s)) > b.want.free(b.t):
		want = api.ErrFull
	}
	mark, before := b.change.Mark(), b.allHomes()
	page, e := blob.Put(b.rooms[k], s)
	says(b.t, e, want)
	if e != api.OK {
		tells(b.t, page, e, 0, want)
		b.unchanged(mark, before)
		return 0
	}
	pages, e := blob.List(b.rooms[k], page)
	says(b.t, e, api.OK)
	if len(pages) != needs(len(s)) || pages[0] != page {
		b.t.Fatalf("a blob of %d bytes that begins at %d has the pages %v", len(s), page, pages)
	}
	b.changedOnly(before, pages)
	b.want.blobs[page] = kept{s, pages}
	b.check()
	return page
}

// puts: so many blobs of one page.
func (b *bench) puts(n int) {
	b.t.Helper()
	for k := range n {
		b.put(0, strings.Repeat("p", k%507))
	}
}

func (b *bench) drop(k, page int) {
	b.t.Helper()
	want := b.ofPage(page)
	mark, before := b.change.Mark(), b.allHomes()
	says(b.t, blob.Drop(b.rooms[k], page), want)
	if want != api.OK {
		b.unchanged(mark, before)
		return
	}
	b.changedOnly(before, nil)
	delete(b.want.blobs, page)
	b.check()
}

// dropFirst: the blob of the least first page; of none that is refused.
func (b *bench) dropFirst(k int) {
	b.t.Helper()
	b.drop(k, append(b.want.firsts(), 0)[0])
}

// unchanged: that a call that was refused put nothing.
func (b *bench) unchanged(mark int, before []string) {
	b.t.Helper()
	if b.change.Mark() != mark || !slices.Equal(before, b.allHomes()) {
		b.t.Fatal("what was refused has changed something")
	}
	b.check()
}

// changedOnly: that no home has changed but that of the bits and those of such pages.
func (b *bench) changedOnly(before []string, pages []int) {
	b.t.Helper()
	for i, text := range b.allHomes() {
		if text != before[i] && i != 1 && !slices.Contains(pages, i-2) {
			b.t.Fatalf("home %d has changed", i)
		}
	}
}

// take: a page that is somebody else's from then on, and holds s; noughts, if nothing is to be written.
func (b *bench) take(s string) int {
	b.t.Helper()
	page, e := b.rooms[0].Alloc()
	says(b.t, e, api.OK)
	if s != "" {
		says(b.t, b.rooms[0].Write(page, s), api.OK)
	}
	b.want.others[page] = padded(s)
	return page
}

// giveBack: somebody else's page.
func (b *bench) giveBack(page int) {
	b.t.Helper()
	says(b.t, b.rooms[0].Free(page), api.OK)
	delete(b.want.others, page)
}

// mark: what room k tells now, kept for back.
func (b *bench) mark(k int) int {
	b.t.Helper()
	mark := b.rooms[k].Mark()
	b.marks = append(b.marks, marked{mark, b.want.copied()})
	return mark
}

// back: to a mark that mark told, to one below 0, or to one behind all puts.
func (b *bench) back(k, mark int) {
	b.t.Helper()
	if mark < b.change.Mark() {
		for len(b.marks) > 1 && b.marks[len(b.marks)-1].mark > mark {
			b.marks = b.marks[:len(b.marks)-1]
		}
		b.want = b.marks[len(b.marks)-1].was.copied()
	}
	b.rooms[k].Back(mark)
	b.check()
}

// commit: the change; what it has is what the log has then.
func (b *bench) commit() {
	b.t.Helper()
	says(b.t, b.change.Commit(), api.OK)
	b.marks = []marked{{0, b.want.copied()}}
	b.check()
}

// forget: the change; the room is as the log has it.
func (b *bench) forget() {
	b.t.Helper()
	b.change.Drop()
	b.marks = b.marks[:1]
	b.want = b.marks[0].was.copied()
	b.check()
}

// bringDown: brings the log down, by a step of its own.
func (b *bench) bringDown() {
	b.t.Helper()
	b.disk.Fuel(0)
	says(b.t, b.log.Commit([]api.Put{{At: 0, Text: "down"}}), api.ErrDown)
	b.down = true
	b.check()
}

// reopen: the log is opened again behind a fall, and the rooms are of a change of it.
func (b *bench) reopen() {
	b.t.Helper()
	b.disk.Fall(nil)
	l, e := wal.Open(b.disk, ring)
	says(b.t, e, api.OK)
	b.log, b.change, b.down = l, tx.Begin(l), false
	for k := range b.rooms {
		b.rooms[k] = room.Of(b.change)
	}
	b.marks = b.marks[:1]
	b.want = b.marks[0].was.copied()
	b.check()
}

// allHomes: what the change's homes hold; nothing, if the log is down.
func (b *bench) allHomes() []string {
	b.t.Helper()
	if b.down {
		return nil
	}
	var list []string
	for i := range b.homes {
		s, e := b.change.Read(i)
		says(b.t, e, api.OK)
		list = append(list, s)
	}
	return list
}

// greatRoom: one of as many pages as a disk may have.
func greatRoom(t *testing.T) *room.Room {
	t.Helper()
	d, e := sector.New(api.MaxSectors)
	says(t, e, api.OK)
	l, e := wal.Open(d, 4)
	says(t, e, api.OK)
	return room.Of(tx.Begin(l))
}
