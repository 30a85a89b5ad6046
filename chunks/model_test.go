package chunks_test

import (
	"crypto/sha256"
	"maps"
	"math"
	"slices"
	"strings"
	"testing"

	"cooperage/api"
	"cooperage/chunks"
	"cooperage/room"
	"cooperage/sector"
	"cooperage/tree"
	"cooperage/tx"
	"cooperage/wal"
)

// kept: a chunk: its text, and its count.
type kept struct {
	text  string
	count int64
}

// entry: of the log.
type entry struct {
	id string
	by int
}

// held: a room in the document's words: the store's chunks by their names, and its log; and what somebody else has: pages that are taken, with what they hold, and the numbers of places 3 to 15.
type held struct {
	pages   int
	chunks  map[string]kept
	log     []entry
	others  map[int]string
	numbers [16]uint64
}

func (h *held) copied() *held {
	return &held{h.pages, maps.Clone(h.chunks), slices.Clone(h.log), maps.Clone(h.others), h.numbers}
}

// names: of the chunks, rising.
func (h *held) names() []string {
	return slices.Sorted(maps.Keys(h.chunks))
}

// pending: what the log's entries for a chunk come to, and whether there are any.
func (h *held) pending(id string) (int64, bool) {
	sum, there := int64(0), false
	for _, x := range h.log {
		if x.id == id {
			sum, there = sum+int64(x.by), true
		}
	}
	return sum, there
}

// all: the chunks, as All tells them.
func (h *held) all() []api.Chunk {
	var list []api.Chunk
	for _, id := range h.names() {
		list = append(list, api.Chunk{ID: id, Len: len(h.chunks[id].text), Count: h.chunks[id].count})
	}
	return list
}

// add: by to a chunk's count.
func (h *held) add(id string, by int) {
	c := h.chunks[id]
	c.count += int64(by)
	h.chunks[id] = c
}

// merged: how many entries Merge adds to the counts.
func (h *held) merged(limit int) int {
	n := max(0, min(limit, len(h.log)))
	for _, x := range h.log[:n] {
		h.add(x.id, x.by)
	}
	h.log = h.log[n:]
	return n
}

// reclaimable: the names of the chunks that Reclaim may give up, rising.
func (h *held) reclaimable() []string {
	var list []string
	for _, id := range h.names() {
		if _, waits := h.pending(id); h.chunks[id].count <= 0 && !waits {
			list = append(list, id)
		}
	}
	return list
}

// fingerprint: SHA-256, by the language's library.
func fingerprint(text string) string {
	sum := sha256.Sum256([]byte(text))
	return string(sum[:])
}

// alike: one fingerprint of all texts.
func alike(text string) string {
	return strings.Repeat("a", 32)
}

// fewPrints: three fingerprints, by how long a text is; they stand side by side, at the ends of what there may be.
func fewPrints(text string) string {
	return []string{strings.Repeat("\x00", 32), strings.Repeat("\x00", 31) + "\x01", strings.Repeat("\xff", 32)}[len(text)%3]
}

// marked: a mark that was told, and what the room was then.
type marked struct {
	mark int
	was  *held
}

// bench: stores of rooms of one change of a log, and the same in the document's words.
type bench struct {
	t      *testing.T
	disk   *sector.Disk
	log    *wal.Log
	change *tx.Tx
	rooms  []*room.Room
	print  func(text string) string
	homes  int
	down   bool
	want   *held
	lazy   bool // whether most checks leave out what takes long
	checks int
	marks  []marked // of what the change has, the first one of what the log has
}

// ring: sectors of the log's ring.
const ring = 700

// laid: stores of a change of a log of so many pages, up to 4096, on a disk of noughts.
func laid(t *testing.T, pages, rooms int) *bench {
	t.Helper()
	homes := pages + 2
	d, e := sector.New(1 + ring + homes)
	says(t, e, api.OK)
	l, e := wal.Open(d, ring)
	says(t, e, api.OK)
	b := &bench{t: t, disk: d, log: l, change: tx.Begin(l), print: fingerprint, homes: homes}
	b.want = &held{pages: pages, chunks: map[string]kept{}, others: map[int]string{}}
	b.marks = []marked{{0, b.want.copied()}}
	for range rooms {
		b.rooms = append(b.rooms, room.Of(b.change))
	}
	if got := b.rooms[0].Pages(); got != pages {
		t.Fatalf("%d pages, not %d", got, pages)
	}
	return b
}

func says(t *testing.T, got, want api.Errno) {
	t.Helper()
	if got != want {
		t.Fatalf("%d, not %d", got, want)
	}
}

// tells: that a call told such a thing, and such an error.
func tells[V comparable](t *testing.T, got V, e api.Errno, want V, wantErr api.Errno) {
	t.Helper()
	if got != want || e != wantErr {
		t.Fatalf("%.60v, %d, not %.60v, %d", got, e, want, wantErr)
	}
}

// lists: that a call told such a list, and such an error.
func lists[V comparable](t *testing.T, got []V, e api.Errno, want []V, wantErr api.Errno) {
	t.Helper()
	if !slices.Equal(got, want) || e != wantErr {
		t.Fatalf("%d of them, %.200v, %d, not %d, %.200v, %d", len(got), got, e, len(want), want, wantErr)
	}
}

// counts: that Count told such counts.
func counts(t *testing.T, s *chunks.Store, id string, count, pending int64, want api.Errno) {
	t.Helper()
	gotCount, gotPending, e := s.Count(id)
	if gotCount != count || gotPending != pending || e != want {
		t.Fatalf("%q: %d, %d, %d, not %d, %d, %d", id, gotCount, gotPending, e, count, pending, want)
	}
}

// puts: that Put told such a name.
func puts(t *testing.T, s *chunks.Store, text, id string, fresh bool, want api.Errno) {
	t.Helper()
	gotID, gotFresh, e := s.Put(text)
	if gotID != id || gotFresh != fresh || e != want {
		t.Fatalf("%.40q: %q, %v, %d, not %q, %v, %d", text, gotID, gotFresh, e, id, fresh, want)
	}
}

// store: of room k, made for one call; where fingerprints are the document's, as the program makes it.
func (b *bench) store(k int) *chunks.Store {
	if b.print("abc") == fingerprint("abc") {
		return chunks.At(b.rooms[k])
	}
	return chunks.AtPrinted(b.rooms[k], b.print)
}

// ofText: the name of the chunk with a text, whether it is a new one, and the error; but for ErrFull, if there are too few pages.
func (b *bench) ofText(text string) (string, bool, api.Errno) {
	switch {
	case b.down:
		return "", false, api.ErrDown
	case len(text) < 1 || len(text) > 128:
		return "", false, api.ErrArg
	}
	for _, id := range b.want.names() {
		if b.want.chunks[id].text == text {
			return id, false, api.OK
		}
	}
	for number := range 256 {
		id := b.print(text) + string([]byte{byte(number)})
		if _, there := b.want.chunks[id]; !there {
			return id, true, api.OK
		}
	}
	return "", false, api.ErrFull
}

// ofName: OK, if there is a chunk of a name, or the first error there is.
func (b *bench) ofName(id string) api.Errno {
	_, there := b.want.chunks[id]
	switch {
	case b.down:
		return api.ErrDown
	case !there:
		return api.ErrLost
	}
	return api.OK
}

// ofAdd: as ofName, of Add and Apply.
func (b *bench) ofAdd(id string, by int) api.Errno {
	if !b.down && by != 1 && by != -1 {
		return api.ErrArg
	}
	return b.ofName(id)
}

// ofAll: OK, or ErrDown.
func (b *bench) ofAll() api.Errno {
	if b.down {
		return api.ErrDown
	}
	return api.OK
}

// check: that all is as in the document's words, by each room; of a lazy bench now and then.
func (b *bench) check() {
	b.t.Helper()
	b.checks++
	if b.lazy && b.checks%50 > 0 {
		return
	}
	for k := range b.rooms {
		s := b.store(k)
		want := b.want.all()
		if b.down {
			want = nil
		}
		all, e := s.All()
		lists(b.t, all, e, want, b.ofAll())
		waits, e := s.Waits()
		if b.down {
			tells(b.t, waits, e, 0, api.ErrDown)
			continue
		}
		tells(b.t, waits, e, len(b.want.log), api.OK)
		b.checkChunks(s)
		b.checkPages(k)
	}
}

// checkChunks: each chunk, and names that are none's.
func (b *bench) checkChunks(s *chunks.Store) {
	b.t.Helper()
	mark := b.change.Mark()
	for id, c := range b.want.chunks {
		text, e := s.Get(id)
		tells(b.t, text, e, c.text, api.OK)
		pending, _ := b.want.pending(id)
		counts(b.t, s, id, c.count, pending, api.OK)
		puts(b.t, s, c.text, id, false, api.OK)
	}
	for _, id := range b.noNames() {
		text, e := s.Get(id)
		tells(b.t, text, e, "", api.ErrLost)
		counts(b.t, s, id, 0, 0, api.ErrLost)
		for _, by := range []int{1, -1} {
			says(b.t, s.Add(id, by), api.ErrLost)
			says(b.t, s.Apply(id, by), api.ErrLost)
		}
	}
	if b.change.Mark() != mark {
		b.t.Fatal("what only looked, or was refused, has put something")
	}
}

// noNames: names that no chunk has: too short, too long, of others.
func (b *bench) noNames() []string {
	list := []string{"", "none", strings.Repeat("\x00", 33), strings.Repeat("\xff", 33), strings.Repeat("x", 97), fingerprint("nobody") + "\x00"}
	for _, id := range append(b.want.names(), fingerprint("a")+"\x00")[:1] {
		list = append(list, id[:32], id[:32]+"\x07", id[:32]+"\xff", id+"\x00", id[1:], id+id, "\x00"+id)
	}
	return slices.DeleteFunc(list, func(id string) bool {
		_, there := b.want.chunks[id]
		return there
	})
}

// checkPages: that those that are taken are as many as the chunks, those of their map, those of the log's map, and others'; and that others' pages and numbers are as they were. With no entry in the log it takes none.
func (b *bench) checkPages(k int) {
	b.t.Helper()
	r := b.rooms[k]
	inMap, e := tree.At(r, 0).Check()
	says(b.t, e, api.OK)
	inLog, e := tree.At(r, 1).Check()
	says(b.t, e, api.OK)
	if len(b.want.log) == 0 && inLog > 0 || len(b.want.chunks) == 0 && inMap > 0 {
		b.t.Fatalf("%d pages of an empty log, %d of %d chunks' map", inLog, inMap, len(b.want.chunks))
	}
	used, e := r.Used()
	tells(b.t, used, e, len(b.want.others)+len(b.want.chunks)+inMap+inLog, api.OK)
	for page, text := range b.want.others {
		got, e := r.Read(page)
		tells(b.t, got, e, text, api.OK)
	}
	for place := 3; place < 16; place++ {
		n, e := r.Root(place)
		tells(b.t, n, e, b.want.numbers[place], api.OK)
	}
}

// put: by room k. Where it is refused for want of pages, few are free.
func (b *bench) put(k int, text string) api.Errno {
	b.t.Helper()
	id, fresh, want := b.ofText(text)
	mark, before, free := b.change.Mark(), b.allHomes(), b.free()
	gotID, gotFresh, e := b.store(k).Put(text)
	if want == api.OK && e == api.ErrFull && fresh && free < 14 {
		id, fresh, want = "", false, api.ErrFull
	}
	if gotID != id || gotFresh != fresh || e != want {
		b.t.Fatalf("%.40q: %q, %v, %d, not %q, %v, %d; %d pages free", text, gotID, gotFresh, e, id, fresh, want, free)
	}
	if !fresh {
		b.unchanged(mark, before)
		return e
	}
	b.want.chunks[id] = kept{text, 0}
	b.check()
	return e
}

// add: by room k. Where it is refused for want of pages, few are free.
func (b *bench) add(k int, id string, by int) api.Errno {
	b.t.Helper()
	want := b.ofAdd(id, by)
	mark, before, free := b.change.Mark(), b.allHomes(), b.free()
	e := b.store(k).Add(id, by)
	if want == api.OK && e == api.ErrFull && free < 14 {
		want = e
	}
	says(b.t, e, want)
	if e != api.OK {
		b.unchanged(mark, before)
		return e
	}
	b.want.log = append(slices.Clone(b.want.log), entry{id, by})
	b.check()
	return e
}

func (b *bench) apply(k int, id string, by int) {
	b.t.Helper()
	want := b.ofAdd(id, by)
	mark, before, free := b.change.Mark(), b.allHomes(), b.free()
	says(b.t, b.store(k).Apply(id, by), want)
	if want != api.OK {
		b.unchanged(mark, before)
		return
	}
	if b.free() != free {
		b.t.Fatal("Apply took room, or gave some back")
	}
	b.want.add(id, by)
	b.check()
}

func (b *bench) merge(k, limit int) {
	b.t.Helper()
	want := 0
	mark, before := b.change.Mark(), b.allHomes()
	if !b.down {
		want = b.want.merged(limit)
	}
	n, e := b.store(k).Merge(limit)
	tells(b.t, n, e, want, b.ofAll())
	if n == 0 {
		b.unchanged(mark, before)
	}
	b.check()
}

func (b *bench) reclaim(k, limit int) {
	b.t.Helper()
	mark, before, free := b.change.Mark(), b.allHomes(), b.free()
	var gone []string
	if !b.down {
		gone = b.want.reclaimable()
	}
	gone = gone[:max(0, min(limit, len(gone)))]
	for _, id := range gone {
		delete(b.want.chunks, id)
	}
	n, e := b.store(k).Reclaim(limit)
	tells(b.t, n, e, len(gone), b.ofAll())
	if n == 0 {
		b.unchanged(mark, before)
	}
	if b.free() < free+n {
		b.t.Fatalf("%d chunks are gone, and from %d to %d pages free", n, free, b.free())
	}
	b.check()
}

// rest: merges all and reclaims all; the pages that are taken are then those of the chunks with a count above 0, and of their map, alone, but for others'.
func (b *bench) rest() {
	b.t.Helper()
	b.merge(0, math.MaxInt)
	b.reclaim(0, math.MaxInt)
	above := 0
	for _, c := range b.want.chunks {
		if c.count > 0 {
			above++
		}
	}
	inMap, e := tree.At(b.rooms[0], 0).Check()
	says(b.t, e, api.OK)
	used, e := b.rooms[0].Used()
	tells(b.t, used, e, len(b.want.others)+above+inMap, api.OK)
	all, e := b.store(0).All()
	tells(b.t, len(all), e, above, api.OK)
}

// unchanged: that a call that was refused, or that had nothing to do, put nothing.
func (b *bench) unchanged(mark int, before []string) {
	b.t.Helper()
	if b.change.Mark() != mark || !slices.Equal(before, b.allHomes()) {
		b.t.Fatal("what was refused has changed something")
	}
	b.check()
}

// free: how many pages are; 0, if the log is down.
func (b *bench) free() int {
	b.t.Helper()
	if b.down {
		return 0
	}
	used, e := b.rooms[0].Used()
	says(b.t, e, api.OK)
	return b.want.pages - used
}

// leave: somebody else takes pages, or gives them back, so that so many are free, if there are so many.
func (b *bench) leave(free int) {
	b.t.Helper()
	for b.free() > free {
		page, e := b.rooms[0].Alloc()
		says(b.t, e, api.OK)
		says(b.t, b.rooms[0].Write(page, "other"), api.OK)
		b.want.others[page] = "other" + strings.Repeat("\x00", 507)
	}
	for _, page := range slices.Sorted(maps.Keys(b.want.others)) {
		if b.free() < free {
			says(b.t, b.rooms[0].Free(page), api.OK)
			delete(b.want.others, page)
		}
	}
	b.check()
}

// number: somebody else's.
func (b *bench) number(place int, n uint64) {
	b.t.Helper()
	says(b.t, b.rooms[0].SetRoot(place, n), api.OK)
	b.want.numbers[place] = n
}

// mark: what the store of room k tells now, kept for back.
func (b *bench) mark(k int) int {
	b.t.Helper()
	mark := b.store(k).Mark()
	if mark != b.change.Mark() {
		b.t.Fatalf("mark %d, not %d", mark, b.change.Mark())
	}
	b.marks = append(b.marks, marked{mark, b.want.copied()})
	return mark
}

// back: to a mark that mark told, to one below 0, or to one behind all puts.
func (b *bench) back(k, mark int) {
	b.t.Helper()
	if mark < b.change.Mark() {
		for len(b.marks) > 1 && b.marks[len(b.marks)-1].mark > mark {
			b.marks = b.marks[:len(b.marks)-1]
		}
		b.want = b.marks[len(b.marks)-1].was.copied()
	}
	b.store(k).Back(mark)
	b.check()
}

// commit: the change; what it has is what the log has then.
func (b *bench) commit() {
	b.t.Helper()
	says(b.t, b.change.Commit(), api.OK)
	b.marks = []marked{{0, b.want.copied()}}
	b.check()
}

// forget: the change; the room is as the log has it.
func (b *bench) forget() {
	b.t.Helper()
	b.change.Drop()
	b.marks = b.marks[:1]
	b.want = b.marks[0].was.copied()
	b.check()
}

// bringDown: brings the log down, by a step of its own.
func (b *bench) bringDown() {
	b.t.Helper()
	b.disk.Fuel(0)
	says(b.t, b.log.Commit([]api.Put{{At: 0, Text: "down"}}), api.ErrDown)
	b.down = true
	b.check()
}

// reopen: the log is opened again behind a fall, and the rooms are of a change of it.
func (b *bench) reopen() {
	b.t.Helper()
	b.disk.Fall(nil)
	l, e := wal.Open(b.disk, ring)
	says(b.t, e, api.OK)
	b.log, b.change, b.down = l, tx.Begin(l), false
	for k := range b.rooms {
		b.rooms[k] = room.Of(b.change)
	}
	b.marks = b.marks[:1]
	b.want = b.marks[0].was.copied()
	b.check()
}

// allHomes: what the change's homes hold; nothing, if the log is down, or the bench is lazy.
func (b *bench) allHomes() []string {
	b.t.Helper()
	if b.down || b.lazy {
		return nil
	}
	var list []string
	for i := range b.homes {
		s, e := b.change.Read(i)
		says(b.t, e, api.OK)
		list = append(list, s)
	}
	return list
}
