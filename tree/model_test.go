package tree_test

import (
	"maps"
	"math"
	"slices"
	"strings"
	"testing"

	"cooperage/api"
	"cooperage/room"
	"cooperage/sector"
	"cooperage/tree"
	"cooperage/tx"
	"cooperage/wal"
)

// held: a room in the document's words: the maps by their places, and the pages that somebody else has taken, with what they hold.
type held struct {
	pages  int
	maps   map[int]map[string]string
	others map[int]string
}

func (h *held) copied() *held {
	copied := &held{h.pages, map[int]map[string]string{}, maps.Clone(h.others)}
	for place, m := range h.maps {
		copied.maps[place] = maps.Clone(m)
	}
	return copied
}

// at: the map at a place.
func (h *held) at(place int) map[string]string {
	if h.maps[place] == nil {
		h.maps[place] = map[string]string{}
	}
	return h.maps[place]
}

// keys: of the map at a place, rising.
func (h *held) keys(place int) []string {
	return slices.Sorted(maps.Keys(h.maps[place]))
}

// scan: the first limit pairs of the map at a place of those whose keys aren't below from and, unless to is "", are below to.
func (h *held) scan(place int, from, to string, limit int) []api.Pair {
	var list []api.Pair
	for _, key := range h.keys(place) {
		if key >= from && (to == "" || key < to) && len(list) < limit {
			list = append(list, api.Pair{Key: key, Val: h.maps[place][key]})
		}
	}
	return list
}

// bench: rooms of one change of a log, and the same in the document's words.
type bench struct {
	t      *testing.T
	disk   *sector.Disk
	log    *wal.Log
	change *tx.Tx
	rooms  []*room.Room
	homes  int
	down   bool
	want   *held
	lazy   bool     // whether most checks leave out what takes long
	checks int      // how many there were
	calls  int      // of few
	marks  []marked // of what the change has, the first one of what the log has
}

// marked: a mark that was told, and what the room was then.
type marked struct {
	mark int
	was  *held
}

// ring: sectors of the log's ring.
const ring = 1200

// laid: rooms of a change of a log of so many pages, up to 4096, on a disk of noughts.
func laid(t *testing.T, pages, rooms int) *bench {
	t.Helper()
	homes := pages + 2
	d, e := sector.New(1 + ring + homes)
	says(t, e, api.OK)
	l, e := wal.Open(d, ring)
	says(t, e, api.OK)
	b := &bench{t: t, disk: d, log: l, change: tx.Begin(l), homes: homes}
	b.want = &held{pages, map[int]map[string]string{}, map[int]string{}}
	b.marks = []marked{{0, b.want.copied()}}
	for range rooms {
		b.rooms = append(b.rooms, room.Of(b.change))
	}
	if got := b.rooms[0].Pages(); got != pages {
		t.Fatalf("%d pages, not %d", got, pages)
	}
	return b
}

func says(t *testing.T, got, want api.Errno) {
	t.Helper()
	if got != want {
		t.Fatalf("%d, not %d", got, want)
	}
}

// tells: that a call told such a thing, and such an error.
func tells[V comparable](t *testing.T, got V, e api.Errno, want V, wantErr api.Errno) {
	t.Helper()
	if got != want || e != wantErr {
		t.Fatalf("%.40v, %d, not %.40v, %d", got, e, want, wantErr)
	}
}

// lists: that a call told such a list, and such an error.
func lists[V comparable](t *testing.T, got []V, e api.Errno, want []V, wantErr api.Errno) {
	t.Helper()
	if !slices.Equal(got, want) || e != wantErr {
		t.Fatalf("%d of them, %.200v, %d, not %d, %.200v, %d", len(got), got, e, len(want), want, wantErr)
	}
}

// gets: that Get told such a value.
func gets(t *testing.T, m *tree.Tree, key, want string, wantThere bool, wantErr api.Errno) {
	t.Helper()
	if got, there, e := m.Get(key); got != want || there != wantThere || e != wantErr {
		t.Fatalf("%q: %q, %v, %d, not %q, %v, %d", key, got, there, e, want, wantThere, wantErr)
	}
}

// long: a text of n bytes.
func long(n int) string {
	return strings.Repeat("l", n)
}

// places: all there are, and others.
func places() []int {
	list := []int{math.MinInt, math.MinInt32, -16, -1, 16, 17, 32, 1 << 32, math.MaxInt}
	for place := range 16 {
		list = append(list, place)
	}
	return list
}

// ofPlace: OK, or the first error there is of a place's map.
func (b *bench) ofPlace(place int) api.Errno {
	switch {
	case b.down:
		return api.ErrDown
	case place < 0 || place > 15:
		return api.ErrRange
	}
	return api.OK
}

// tree: by room k, made for one call.
func (b *bench) tree(k, place int) *tree.Tree {
	return tree.At(b.rooms[k], place)
}

// check: that all is as in the document's words, by each room; of a lazy bench now and then.
func (b *bench) check() {
	b.t.Helper()
	b.checks++
	if b.lazy && b.checks%100 > 0 {
		return
	}
	for k := range b.rooms {
		taken := maps.Clone(b.want.others)
		for _, place := range places() {
			b.checkMap(k, place)
			if b.ofPlace(place) != api.OK {
				continue
			}
			pages, e := b.tree(k, place).Pages()
			says(b.t, e, api.OK)
			for _, page := range pages {
				if _, twice := taken[page]; twice {
					b.t.Fatalf("page %d is taken by two", page)
				}
				taken[page] = ""
			}
		}
		if b.down {
			continue
		}
		used, e := b.rooms[k].Used()
		tells(b.t, used, e, len(taken), api.OK)
		for page, text := range b.want.others {
			got, e := b.rooms[k].Read(page)
			tells(b.t, got, e, text, api.OK)
		}
	}
}

// checkMap: that the map at a place answers as in the document's words.
func (b *bench) checkMap(k, place int) {
	b.t.Helper()
	m, want, e := b.tree(k, place), b.want.maps[place], b.ofPlace(place)
	if e != api.OK {
		want = nil
	}
	count, countErr := m.Count()
	tells(b.t, count, countErr, len(want), e)
	b.checkPages(m, len(want), e)
	if root, rootErr := b.rooms[k].Root(place); rootErr == api.OK && (root == 0) != (len(want) == 0) {
		b.t.Fatalf("%d pairs, but the place's number is %d", len(want), root)
	}
	all, allErr := m.Scan("", "", math.MaxInt)
	if e != api.OK {
		lists(b.t, all, allErr, nil, e)
		gets(b.t, m, "", "", false, e)
		return
	}
	lists(b.t, all, allErr, b.want.scan(place, "", "", math.MaxInt), api.OK)
	if b.lazy {
		return
	}
	for key, val := range want {
		gets(b.t, m, key, val, true, api.OK)
		for _, other := range []string{key + "\x00", key + "x", key[:len(key)/2], ""} {
			val, there := want[other]
			gets(b.t, m, other, val, there, api.OK)
		}
	}
	for _, limit := range []int{math.MinInt, -1, 0, 1, 2, count - 1, count, count + 1} {
		some, e := m.Scan("", "", limit)
		lists(b.t, some, e, b.want.scan(place, "", "", limit), api.OK)
	}
}

// checkPages: that Check and Pages tell the same of a map of n pairs, and as many as P9.2 allows.
func (b *bench) checkPages(m *tree.Tree, n int, want api.Errno) {
	b.t.Helper()
	pages, e := m.Pages()
	says(b.t, e, want)
	check, e := m.Check()
	tells(b.t, check, e, len(pages), want)
	switch {
	case want != api.OK && len(pages) > 0:
		b.t.Fatalf("refused, but pages %v", pages)
	case n == 0 && len(pages) > 0:
		b.t.Fatalf("without pairs, but pages %v", pages)
	case n > 0 && len(pages) == 0:
		b.t.Fatalf("%d pairs, but no pages", n)
	case len(pages) > 2*n+16:
		b.t.Fatalf("%d pairs in %d pages", n, len(pages))
	}
	for k, page := range pages {
		if k > 0 && page <= pages[k-1] {
			b.t.Fatalf("pages %v", pages)
		}
		has, e := b.rooms[0].Has(page)
		tells(b.t, has, e, true, api.OK)
	}
}

// put: by room k. Where a Put that isn't too great is refused by ErrFull, fewer pages are free than P9.2 has them be.
func (b *bench) put(k, place int, key, val string) api.Errno {
	b.t.Helper()
	want := b.ofPlace(place)
	if want == api.OK && (len(key) > 96 || len(val) > 56) {
		want = api.ErrBig
	}
	mark, before := b.change.Mark(), b.allHomes()
	got := b.tree(k, place).Put(key, val)
	if want == api.OK && got == api.ErrFull {
		if free := b.free(); free >= 3+2*b.levels(place) {
			b.t.Fatalf("refused with %d free pages and %d levels", free, b.levels(place))
		}
		want = got
	}
	says(b.t, got, want)
	if want != api.OK {
		b.unchanged(mark, before)
		return got
	}
	b.changedOnly(before, place)
	b.want.at(place)[key] = val
	gets(b.t, b.tree(k, place), key, val, true, api.OK)
	b.check()
	return got
}

func (b *bench) delete(k, place int, key string) {
	b.t.Helper()
	want := b.ofPlace(place)
	_, there := b.want.maps[place][key]
	there = there && want == api.OK
	mark, before := b.change.Mark(), b.allHomes()
	was, e := b.tree(k, place).Delete(key)
	tells(b.t, was, e, there, want)
	if !there {
		b.unchanged(mark, before)
		return
	}
	b.changedOnly(before, place)
	delete(b.want.maps[place], key)
	gets(b.t, b.tree(k, place), key, "", false, api.OK)
	b.check()
}

// scan: by room k.
func (b *bench) scan(k, place int, from, to string, limit int) {
	b.t.Helper()
	mark, before := b.change.Mark(), b.allHomes()
	var want []api.Pair
	if b.ofPlace(place) == api.OK {
		want = b.want.scan(place, from, to, limit)
	}
	list, e := b.tree(k, place).Scan(from, to, limit)
	lists(b.t, list, e, want, b.ofPlace(place))
	b.unchanged(mark, before)
}

// unchanged: that a call that was refused, or only looked, put nothing.
func (b *bench) unchanged(mark int, before []string) {
	b.t.Helper()
	if b.change.Mark() != mark || !slices.Equal(before, b.allHomes()) {
		b.t.Fatal("what was refused has changed something")
	}
	b.check()
}

// changedOnly: that no home has changed but that of the numbers, there only the place's, that of the bits, and pages that the map at the place has, or that are free. (Others' pages and maps check looks at.)
func (b *bench) changedOnly(before []string, place int) {
	b.t.Helper()
	if b.lazy {
		return
	}
	pages, e := b.tree(0, place).Pages()
	says(b.t, e, api.OK)
	for i, text := range b.allHomes() {
		if text == before[i] || i == 1 {
			continue
		}
		if i == 0 {
			at := 8 * place
			if text[:at] != before[0][:at] || text[at+8:] != before[0][at+8:] {
				b.t.Fatal("another place's number has changed")
			}
			continue
		}
		has, e := b.rooms[0].Has(i - 2)
		says(b.t, e, api.OK)
		if has && !slices.Contains(pages, i-2) {
			b.t.Fatalf("page %d has changed", i-2)
		}
	}
}

// free: how many pages are.
func (b *bench) free() int {
	b.t.Helper()
	used, e := b.rooms[0].Used()
	says(b.t, e, api.OK)
	return b.want.pages - used
}

// levels: of the map at a place. (This and what forges pages alone know how a page stands: its first byte tells its level above the leaves.)
func (b *bench) levels(place int) int {
	b.t.Helper()
	root, e := b.rooms[0].Root(place)
	says(b.t, e, api.OK)
	if root == 0 {
		return 0
	}
	text, e := b.rooms[0].Read(int(root) - 1)
	says(b.t, e, api.OK)
	return int(text[0]-0xc0) + 1
}

// take: a page that is somebody else's from then on, and holds s; noughts, if nothing is to be written.
func (b *bench) take(s string) int {
	b.t.Helper()
	page, e := b.rooms[0].Alloc()
	says(b.t, e, api.OK)
	if s != "" {
		says(b.t, b.rooms[0].Write(page, s), api.OK)
	}
	b.want.others[page] = s + strings.Repeat("\x00", 512-len(s))
	return page
}

// leave: takes pages for somebody else, or gives them back, till so many are free, if there are as many.
func (b *bench) leave(free int) {
	b.t.Helper()
	now := b.free()
	for range now - free {
		b.take("other")
	}
	if now >= free {
		return
	}
	others := slices.Sorted(maps.Keys(b.want.others))
	for _, page := range others[:min(len(others), free-now)] {
		b.giveBack(page)
	}
}

// giveBack: somebody else's page.
func (b *bench) giveBack(page int) {
	b.t.Helper()
	says(b.t, b.rooms[0].Free(page), api.OK)
	delete(b.want.others, page)
}

// mark: what room k tells now, kept for back.
func (b *bench) mark(k int) int {
	b.t.Helper()
	mark := b.rooms[k].Mark()
	b.marks = append(b.marks, marked{mark, b.want.copied()})
	return mark
}

// back: to a mark that mark told, to one below 0, or to one behind all puts.
func (b *bench) back(k, mark int) {
	b.t.Helper()
	if mark < b.change.Mark() {
		for len(b.marks) > 1 && b.marks[len(b.marks)-1].mark > mark {
			b.marks = b.marks[:len(b.marks)-1]
		}
		b.want = b.marks[len(b.marks)-1].was.copied()
	}
	b.rooms[k].Back(mark)
	b.check()
}

// commit: the change; what it has is what the log has then.
func (b *bench) commit() {
	b.t.Helper()
	says(b.t, b.change.Commit(), api.OK)
	b.marks = []marked{{0, b.want.copied()}}
	b.check()
}

// forget: the change; the room is as the log has it.
func (b *bench) forget() {
	b.t.Helper()
	b.change.Drop()
	b.marks = b.marks[:1]
	b.want = b.marks[0].was.copied()
	b.check()
}

// bringDown: brings the log down, by a step of its own.
func (b *bench) bringDown() {
	b.t.Helper()
	b.disk.Fuel(0)
	says(b.t, b.log.Commit([]api.Put{{At: 0, Text: "down"}}), api.ErrDown)
	b.down = true
	b.check()
}

// reopen: the log is opened again behind a fall, and the rooms are of a change of it.
func (b *bench) reopen() {
	b.t.Helper()
	b.disk.Fall(nil)
	l, e := wal.Open(b.disk, ring)
	says(b.t, e, api.OK)
	b.log, b.change, b.down = l, tx.Begin(l), false
	for k := range b.rooms {
		b.rooms[k] = room.Of(b.change)
	}
	b.marks = b.marks[:1]
	b.want = b.marks[0].was.copied()
	b.check()
}

// allHomes: what the change's homes hold; nothing, if the log is down, or the bench is lazy.
func (b *bench) allHomes() []string {
	b.t.Helper()
	if b.down || b.lazy {
		return nil
	}
	var list []string
	for i := range b.homes {
		s, e := b.change.Read(i)
		says(b.t, e, api.OK)
		list = append(list, s)
	}
	return list
}
