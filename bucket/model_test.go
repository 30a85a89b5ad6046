package bucket_test

import (
	"fmt"
	"maps"
	"regexp"
	"slices"
	"strings"
	"testing"

	"cooperage/api"
	"cooperage/bucket"
	"cooperage/name"
	"cooperage/room"
	"cooperage/sector"
	"cooperage/tree"
	"cooperage/tx"
	"cooperage/wal"
)

// Buckets in the document's words.

// names: 3 to 16 of a to z, digits and -, no - first or last.
var names = regexp.MustCompile(`\A[a-z0-9][a-z0-9-]{1,14}[a-z0-9]\z`)

func isName(s string) bool {
	return names.MatchString(s)
}

// isRule: a Prefix of at most 20 bytes; neither a Prefix nor an After of one that isn't On.
func isRule(rule api.Rule) bool {
	return len(rule.Prefix) <= 20 && (rule.On || rule.Prefix == "" && rule.After == 0)
}

// thing: what stands under a bucket: a version, or an upload.
type thing struct {
	upload       bool
	bucket, item string
	id           uint64
}

func (x thing) key() string {
	if x.upload {
		return name.UploadKey(x.bucket, x.item, x.id)
	}
	return name.VersionKey(x.bucket, x.item, x.id)
}

// held: a room: its buckets by their names, what stands under buckets, and pages that somebody else has.
type held struct {
	buckets map[string]api.Bucket
	things  map[thing]int
	others  []int
}

func (h *held) copied() *held {
	return &held{maps.Clone(h.buckets), maps.Clone(h.things), slices.Clone(h.others)}
}

// laid: what stands under buckets, in order of the keys.
func (h *held) laid() []thing {
	return slices.SortedFunc(maps.Keys(h.things), func(x, y thing) int {
		return strings.Compare(x.key(), y.key())
	})
}

// ofName: OK, if there is a bucket of a name, or the first error there is.
func (h *held) ofName(s string) api.Errno {
	_, there := h.buckets[s]
	switch {
	case !isName(s):
		return api.BadName
	case !there:
		return api.NoBucket
	}
	return api.OK
}

func (h *held) find(s string) (api.Bucket, api.Errno) {
	e := h.ofName(s)
	if e != api.OK {
		return api.Bucket{}, e
	}
	return h.buckets[s], api.OK
}

func (h *held) empty(s string) (bool, api.Errno) {
	if e := h.ofName(s); e != api.OK {
		return false, e
	}
	for x := range h.things {
		if x.bucket == s {
			return false, api.OK
		}
	}
	return true, api.OK
}

// make: but for ErrFull.
func (h *held) make(s string, now uint64) api.Errno {
	switch e := h.ofName(s); e {
	case api.OK:
		return api.BucketThere
	case api.NoBucket:
		h.buckets[s] = api.Bucket{Name: s, State: 0, Born: now}
		return api.OK
	default:
		return e
	}
}

func (h *held) setState(s string, state int) api.Errno {
	b, e := h.find(s)
	switch {
	case e != api.OK:
		return e
	case state != 1 && state != 2:
		return api.BadAsk
	}
	b.State = state
	h.buckets[s] = b
	return api.OK
}

func (h *held) setRule(s string, rule api.Rule) api.Errno {
	b, e := h.find(s)
	switch {
	case e != api.OK:
		return e
	case !isRule(rule):
		return api.BadAsk
	}
	b.Rule = rule
	h.buckets[s] = b
	return api.OK
}

func (h *held) drop(s string) api.Errno {
	empty, e := h.empty(s)
	switch {
	case e != api.OK:
		return e
	case !empty:
		return api.NotEmpty
	}
	delete(h.buckets, s)
	return api.OK
}

// restore: but for ErrFull.
func (h *held) restore(b api.Bucket) api.Errno {
	switch {
	case !isName(b.Name):
		return api.BadName
	case b.State < 0 || b.State > 2 || !isRule(b.Rule):
		return api.BadAsk
	}
	h.buckets[b.Name] = b
	return api.OK
}

// marked: a mark that was told, and what the room was then.
type marked struct {
	mark int
	was  *held
}

// bench: two rooms, each of a change of its own, of one log, and the same in the document's words. At any time one of the changes has puts, the other one has none.
type bench struct {
	t       *testing.T
	disk    *sector.Disk
	log     *wal.Log
	changes [2]*tx.Tx
	rooms   [2]*room.Room
	homes   int
	down    bool
	lazy    bool  // whether checks leave out what takes long
	at      int   // whose change may have puts
	want    *held // what its room has
	marks   []marked
	firm    *held // what the log has
}

// ring: sectors of the log's ring.
const ring = 64

// laid: rooms of so many pages.
func laid(t *testing.T, pages int) *bench {
	t.Helper()
	homes := 1 + pages + (pages+4095)/4096
	d, e := sector.New(1 + ring + homes)
	says(t, e, api.OK)
	b := &bench{t: t, disk: d, homes: homes, firm: &held{buckets: map[string]api.Bucket{}, things: map[thing]int{}}}
	b.open()
	if got := b.room().Pages(); got != pages {
		t.Fatalf("%d pages, not %d", got, pages)
	}
	return b
}

// open: the log on the disk, with changes and rooms of their own.
func (b *bench) open() {
	b.t.Helper()
	l, e := wal.Open(b.disk, ring)
	says(b.t, e, api.OK)
	b.log, b.down = l, false
	for k := range b.rooms {
		b.changes[k] = tx.Begin(l)
		b.rooms[k] = room.Of(b.changes[k])
	}
	b.fresh()
}

// fresh: the rooms are as the log is.
func (b *bench) fresh() {
	b.want = b.firm.copied()
	b.marks = []marked{{0, b.firm.copied()}}
}

func (b *bench) room() *room.Room {
	return b.rooms[b.at]
}

func (b *bench) change() *tx.Tx {
	return b.changes[b.at]
}

func says(t *testing.T, got, want api.Errno) {
	t.Helper()
	if got != want {
		t.Fatalf("%d, not %d", got, want)
	}
}

// shown: a value in Go's words, or how they begin.
func shown(v any) string {
	words := fmt.Sprintf("%#v", v)
	return words[:min(len(words), 300)]
}

// tells: that a call told such a thing, and such an error.
func tells[V comparable](t *testing.T, got V, e api.Errno, want V, wantErr api.Errno) {
	t.Helper()
	if got != want || e != wantErr {
		t.Fatalf("%s, %d, not %s, %d", shown(got), e, shown(want), wantErr)
	}
}

// lists: that a call told such a list, and such an error.
func lists[V comparable](t *testing.T, got []V, e api.Errno, want []V, wantErr api.Errno) {
	t.Helper()
	if !slices.Equal(got, want) || e != wantErr {
		t.Fatalf("%s, %d, not %s, %d", shown(got), e, shown(want), wantErr)
	}
}

// check: that each room is as in the document's words.
func (b *bench) check() {
	b.t.Helper()
	for k, r := range b.rooms {
		h := b.firm
		if k == b.at {
			h = b.want
		}
		names, e := bucket.Names(r)
		if b.down {
			lists(b.t, names, e, nil, api.ErrDown)
			continue
		}
		lists(b.t, names, e, slices.Sorted(maps.Keys(h.buckets)), api.OK)
		if b.lazy {
			continue
		}
		for _, s := range slices.Concat(names, someNames(), noNames()) {
			checkName(b.t, r, h, s)
		}
		checkMap(b.t, r, h)
	}
}

// checkName: what Find and Empty tell of a name.
func checkName(t *testing.T, r *room.Room, h *held, s string) {
	t.Helper()
	want, wantErr := h.find(s)
	got, e := bucket.Find(r, s)
	tells(t, got, e, want, wantErr)
	isEmpty, wantErr := h.empty(s)
	empty, e := bucket.Empty(r, s)
	tells(t, empty, e, isEmpty, wantErr)
}

// checkMap: that in the map there are the keys of the buckets, and of what stands under buckets, with what was put there, and no others; and that no pages are taken but the map's, and those that somebody else has.
func checkMap(t *testing.T, r *room.Room, h *held) {
	t.Helper()
	m := tree.At(r, 4)
	n, e := m.Count()
	tells(t, n, e, len(h.buckets)+len(h.things), api.OK)
	for s := range h.buckets {
		_, there, e := m.Get(name.BucketKey(s))
		tells(t, there, e, true, api.OK)
	}
	for x := range h.things {
		val, there, e := m.Get(x.key())
		tells(t, there, e, true, api.OK)
		tells(t, val, e, valOf(x), api.OK)
	}
	pages, e := m.Check()
	says(t, e, api.OK)
	used, e := r.Used()
	tells(t, used, e, pages+len(h.others), api.OK)
	for place := range 16 {
		if n, e := r.Root(place); place != 4 {
			tells(t, n, e, 0, api.OK)
		}
	}
}

// valOf: what stands at a thing's key.
func valOf(x thing) string {
	return fmt.Sprint(x.item, x.id)[:1]
}

// state: of the change's homes, and how many puts it has.
type state struct {
	mark  int
	homes []string
}

// now: the state; of a lazy bench, and of one that is down, without the homes.
func (b *bench) now() state {
	b.t.Helper()
	now := state{mark: b.change().Mark()}
	for i := range b.homes {
		if b.down || b.lazy {
			break
		}
		s, e := b.change().Read(i)
		says(b.t, e, api.OK)
		now.homes = append(now.homes, s)
	}
	return now
}

// unchanged: that all is as it was.
func (b *bench) unchanged(was state) {
	b.t.Helper()
	now := b.now()
	if now.mark != was.mark || !slices.Equal(now.homes, was.homes) {
		b.t.Fatal("what only looks, or was refused, has changed something")
	}
	b.check()
}

// roomy: with so many free pages, and a map of the few levels that it has here, nothing is refused for want of them.
const roomy = 3 + 2*3

// lacks: whether a call takes more pages than are free, found in a room to which somebody else has given back all of theirs. All is taken back.
func (b *bench) lacks(call func() api.Errno) bool {
	b.t.Helper()
	free, mark := b.free(), b.room().Mark()
	if free >= roomy {
		return false
	}
	defer b.room().Back(mark)
	for _, page := range b.want.others {
		says(b.t, b.room().Free(page), api.OK)
	}
	was := b.free()
	if e := call(); e == api.ErrFull && was < roomy {
		return true
	} else {
		says(b.t, e, api.OK)
	}
	return was-b.free() > free
}

// done: that a call, which may need room, is answered as the model is, and leaves what it does.
func (b *bench) done(call func() api.Errno, inWords func(h *held) api.Errno, needsRoom bool) api.Errno {
	b.t.Helper()
	after := b.want.copied()
	want := inWords(after)
	switch {
	case b.down:
		want = api.ErrDown
	case want == api.OK && needsRoom && b.lacks(call):
		want = api.ErrFull
	}
	was, free := b.now(), b.free()
	e := call()
	says(b.t, e, want)
	if e != api.OK {
		b.unchanged(was)
		return e
	}
	if !needsRoom && b.free() < free {
		b.t.Fatal("what needs no room has taken some")
	}
	b.want = after
	b.check()
	return e
}

func (b *bench) make(s string, now uint64) api.Errno {
	b.t.Helper()
	return b.done(func() api.Errno { return bucket.Make(b.room(), s, now) }, func(h *held) api.Errno { return h.make(s, now) }, true)
}

func (b *bench) setState(s string, state int) api.Errno {
	b.t.Helper()
	return b.done(func() api.Errno { return bucket.SetState(b.room(), s, state) }, func(h *held) api.Errno { return h.setState(s, state) }, false)
}

func (b *bench) setRule(s string, rule api.Rule) api.Errno {
	b.t.Helper()
	return b.done(func() api.Errno { return bucket.SetRule(b.room(), s, rule) }, func(h *held) api.Errno { return h.setRule(s, rule) }, false)
}

func (b *bench) drop(s string) api.Errno {
	b.t.Helper()
	return b.done(func() api.Errno { return bucket.Drop(b.room(), s) }, func(h *held) api.Errno { return h.drop(s) }, false)
}

func (b *bench) restore(x api.Bucket) api.Errno {
	b.t.Helper()
	_, there := b.want.buckets[x.Name]
	return b.done(func() api.Errno { return bucket.Restore(b.room(), x) }, func(h *held) api.Errno { return h.restore(x) }, !there)
}

// look: what Find, Empty and Names tell; nothing is put by it.
func (b *bench) look(s string) {
	b.t.Helper()
	was := b.now()
	want, wantErr := b.want.find(s)
	isEmpty, _ := b.want.empty(s)
	if b.down {
		want, isEmpty, wantErr = api.Bucket{}, false, api.ErrDown
	}
	got, e := bucket.Find(b.room(), s)
	tells(b.t, got, e, want, wantErr)
	empty, e := bucket.Empty(b.room(), s)
	tells(b.t, empty, e, isEmpty, wantErr)
	b.unchanged(was)
}

// lay: a version or an upload under a bucket's name, whether there is one or not; if there is room.
func (b *bench) lay(x thing) {
	b.t.Helper()
	if e := tree.At(b.room(), 4).Put(x.key(), valOf(x)); e != api.ErrFull || b.free() >= roomy {
		says(b.t, e, api.OK)
		b.want.things[x] = 1
	}
	b.check()
}

// take: what was laid away again.
func (b *bench) take(x thing) {
	b.t.Helper()
	_, e := tree.At(b.room(), 4).Delete(x.key())
	says(b.t, e, api.OK)
	delete(b.want.things, x)
	b.check()
}

// free: how many pages are; 0, if the log is down.
func (b *bench) free() int {
	b.t.Helper()
	if b.down {
		return 0
	}
	used, e := b.room().Used()
	says(b.t, e, api.OK)
	return b.room().Pages() - used
}

// leave: somebody else takes pages, or gives them back, so that so many are free, if there are so many.
func (b *bench) leave(free int) {
	b.t.Helper()
	for now := b.free(); now > free; now-- {
		page, e := b.room().Alloc()
		says(b.t, e, api.OK)
		b.want.others = append(b.want.others, page)
	}
	for now := b.free(); now < free && len(b.want.others) > 0; now++ {
		last := len(b.want.others) - 1
		says(b.t, b.room().Free(b.want.others[last]), api.OK)
		b.want.others = b.want.others[:last]
	}
	b.check()
}

// mark: what the room tells now, kept for back.
func (b *bench) mark() int {
	mark := b.room().Mark()
	b.marks = append(b.marks, marked{mark, b.want.copied()})
	return mark
}

// back: to a mark that mark told.
func (b *bench) back(mark int) {
	b.t.Helper()
	if mark < b.change().Mark() {
		for len(b.marks) > 1 && b.marks[len(b.marks)-1].mark > mark {
			b.marks = b.marks[:len(b.marks)-1]
		}
		b.want = b.marks[len(b.marks)-1].was.copied()
	}
	b.room().Back(mark)
	b.check()
}

// commit: the change; what its room has is what the log has then. The other room's turn comes.
func (b *bench) commit() {
	b.t.Helper()
	says(b.t, b.change().Commit(), api.OK)
	b.firm = b.want
	b.fresh()
	b.at = 1 - b.at
	b.check()
}

// forget: the change is given up; its room is as the log is. The other room's turn comes.
func (b *bench) forget() {
	b.t.Helper()
	b.change().Drop()
	b.fresh()
	b.at = 1 - b.at
	b.check()
}

// bringDown: brings the log down, by a step of its own.
func (b *bench) bringDown() {
	b.t.Helper()
	b.disk.Fuel(0)
	says(b.t, b.log.Commit([]api.Put{{At: 0, Text: "down"}}), api.ErrDown)
	b.down = true
	b.check()
}

// reopen: the log is opened again behind a fall.
func (b *bench) reopen() {
	b.t.Helper()
	b.disk.Fall(nil)
	b.open()
	b.check()
}
