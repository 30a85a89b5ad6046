package version_test

import (
	"crypto/sha256"
	"fmt"
	"maps"
	"math"
	"regexp"
	"slices"
	"strings"
	"testing"

	"cooperage/api"
	"cooperage/blob"
	"cooperage/bucket"
	"cooperage/chunks"
	"cooperage/cut"
	"cooperage/name"
	"cooperage/recipe"
	"cooperage/room"
	"cooperage/sector"
	"cooperage/tree"
	"cooperage/tx"
	"cooperage/version"
	"cooperage/wal"
)

// Versions in the document's words.

// names: 3 to 16 of a to z, digits and -, no - first or last.
var names = regexp.MustCompile(`\A[a-z0-9][a-z0-9-]{1,14}[a-z0-9]\z`)

// isItem: 1 to 40 bytes, none of them 0.
func isItem(s string) bool {
	return 1 <= len(s) && len(s) <= 40 && !strings.Contains(s, "\x00")
}

// refOf: of the first chunk with a text: its name is SHA-256, by the language's library, and a byte 0.
func refOf(text string) api.Ref {
	sum := sha256.Sum256([]byte(text))
	return api.Ref{ID: string(sum[:]) + "\x00", Len: len(text)}
}

// refsOf: of each of a text's chunks.
func refsOf(text string) []api.Ref {
	var refs []api.Ref
	for _, one := range cut.Cut(text) {
		refs = append(refs, refOf(one))
	}
	return refs
}

func isRecipe(refs []api.Ref) bool {
	for _, ref := range refs {
		if len(ref.ID) != 33 || ref.Len < 1 || ref.Len > 128 {
			return false
		}
	}
	return len(refs) <= 4000
}

// bytesOf: of each ref the name, and its Len.
func bytesOf(refs []api.Ref) string {
	var list []string
	for _, ref := range refs {
		list = append(list, ref.ID, string([]byte{byte(ref.Len)}))
	}
	return strings.Join(list, "")
}

func sizeOf(refs []api.Ref) int {
	size := 0
	for _, ref := range refs {
		size += ref.Len
	}
	return size
}

// pagesOf: as many as the least whole number that isn't below the bytes' number / 506, and 1 at least.
func pagesOf(refs []api.Ref) int {
	return max(1, (34*len(refs)+505)/506)
}

// kept: a version, but for its Page, and its recipe.
type kept struct {
	v    api.Version
	refs []api.Ref
}

// held: a room: its buckets' States by their names; versions by their numbers; the last number that was told; a recipe that somebody has built, and no version has yet; and pages that somebody else has.
type held struct {
	states   map[string]int
	versions map[uint64]kept
	last     uint64
	hand     []api.Ref
	others   []int
}

func (h *held) copied() *held {
	return &held{maps.Clone(h.states), maps.Clone(h.versions), h.last, h.hand, slices.Clone(h.others)}
}

// ofNames: OK, or the first error there is.
func (h *held) ofNames(bucket, item string) api.Errno {
	_, there := h.states[bucket]
	switch {
	case !names.MatchString(bucket) || !isItem(item):
		return api.BadName
	case !there:
		return api.NoBucket
	}
	return api.OK
}

// all: an item's versions, the latest first.
func (h *held) all(bucket, item string) []api.Version {
	var list []api.Version
	for _, x := range h.versions {
		if x.v.Bucket == bucket && x.v.Key == item {
			list = append(list, x.v)
		}
	}
	slices.SortFunc(list, func(x, y api.Version) int {
		if x.ID > y.ID {
			return -1
		}
		return 1
	})
	return list
}

func (h *held) find(bucket, item string, id uint64) (api.Version, api.Errno) {
	if e := h.ofNames(bucket, item); e != api.OK {
		return api.Version{}, e
	}
	list := h.all(bucket, item)
	found, none := list[:min(1, len(list))], api.NoKey
	if id != 0 {
		found, none = nil, api.NoVersion
		for _, v := range list {
			if v.ID == id {
				found = append(found, v)
			}
		}
	}
	switch {
	case len(found) == 0:
		return api.Version{}, none
	case found[0].Marker:
		return api.Version{}, api.NoKey
	}
	return found[0], api.OK
}

// givePlain: gives up an item's plain version, if there is one.
func (h *held) givePlain(bucket, item string) {
	for _, v := range h.all(bucket, item) {
		if v.Plain {
			delete(h.versions, v.ID)
		}
	}
}

func (h *held) number() uint64 {
	h.last++
	return h.last
}

// add: a version with a number of its own.
func (h *held) add(v api.Version, refs []api.Ref) api.Version {
	v.ID = h.number()
	h.versions[v.ID] = kept{v, refs}
	return v
}

// put: but for ErrFull and ErrBig.
func (h *held) put(bucket, item string, refs []api.Ref, now uint64) (api.Version, api.Errno) {
	e := h.ofNames(bucket, item)
	switch {
	case e != api.OK:
		return api.Version{}, e
	case !isRecipe(refs):
		return api.Version{}, api.ErrArg
	}
	plain := h.states[bucket] != 1
	if plain {
		h.givePlain(bucket, item)
	}
	h.hand = nil
	return h.add(api.Version{Bucket: bucket, Key: item, Plain: plain, Born: now, Size: sizeOf(refs)}, slices.Clone(refs)), api.OK
}

// delete: but for ErrFull.
func (h *held) delete(bucket, item string, now uint64) (api.Version, api.Errno) {
	if e := h.ofNames(bucket, item); e != api.OK {
		return api.Version{}, e
	}
	marker := api.Version{Bucket: bucket, Key: item, Marker: true, Born: now}
	switch h.states[bucket] {
	case 1:
		return h.add(marker, nil), api.OK
	case 2:
		h.givePlain(bucket, item)
		marker.Plain = true
		return h.add(marker, nil), api.OK
	}
	h.givePlain(bucket, item)
	return api.Version{}, api.OK
}

func (h *held) remove(bucket, item string, id uint64) api.Errno {
	if e := h.ofNames(bucket, item); e != api.OK {
		return e
	}
	if x, there := h.versions[id]; !there || x.v.Bucket != bucket || x.v.Key != item {
		return api.NoVersion
	}
	delete(h.versions, id)
	return api.OK
}

// standing: how often each chunk stands in recipes of versions, and in the one that somebody has.
func (h *held) standing() map[string]int64 {
	counts := map[string]int64{}
	for _, x := range h.versions {
		for _, ref := range x.refs {
			counts[ref.ID]++
		}
	}
	for _, ref := range h.hand {
		counts[ref.ID]++
	}
	return counts
}

// numbers: of all versions, rising.
func (h *held) numbers() []uint64 {
	return slices.Sorted(maps.Keys(h.versions))
}

// marked: a mark that was told, and what the room was then.
type marked struct {
	mark int
	was  *held
}

// bench: two rooms, each of a change of its own, of one log, and the same in the document's words. At any time one of the changes has puts, the other one has none.
type bench struct {
	t       *testing.T
	disk    *sector.Disk
	log     *wal.Log
	changes [2]*tx.Tx
	rooms   [2]*room.Room
	homes   int
	down    bool
	lazy    bool // whether checks leave out what takes long
	checks  int
	at      int   // whose change may have puts
	want    *held // what its room has
	marks   []marked
	firm    *held // what the log has
}

// ring: sectors of the log's ring.
const ring = 700

// laid: rooms of so many pages.
func laid(t *testing.T, pages int) *bench {
	t.Helper()
	homes := 1 + pages + (pages+4095)/4096
	d, e := sector.New(1 + ring + homes)
	says(t, e, api.OK)
	b := &bench{t: t, disk: d, homes: homes, firm: &held{states: map[string]int{}, versions: map[uint64]kept{}}}
	b.open()
	if got := b.room().Pages(); got != pages {
		t.Fatalf("%d pages, not %d", got, pages)
	}
	return b
}

// open: the log on the disk, with changes and rooms of their own.
func (b *bench) open() {
	b.t.Helper()
	l, e := wal.Open(b.disk, ring)
	says(b.t, e, api.OK)
	b.log, b.down = l, false
	for k := range b.rooms {
		b.changes[k] = tx.Begin(l)
		b.rooms[k] = room.Of(b.changes[k])
	}
	b.fresh()
}

// fresh: the rooms are as the log is.
func (b *bench) fresh() {
	b.want = b.firm.copied()
	b.marks = []marked{{0, b.firm.copied()}}
}

func (b *bench) room() *room.Room {
	return b.rooms[b.at]
}

func (b *bench) change() *tx.Tx {
	return b.changes[b.at]
}

func (b *bench) store() *chunks.Store {
	return chunks.At(b.room())
}

func says(t *testing.T, got, want api.Errno) {
	t.Helper()
	if got != want {
		t.Fatalf("%d, not %d", got, want)
	}
}

// shown: a value in Go's words, or how they begin.
func shown(v any) string {
	words := fmt.Sprintf("%#v", v)
	return words[:min(len(words), 400)]
}

// tells: that a call told such a thing, and such an error.
func tells[V comparable](t *testing.T, got V, e api.Errno, want V, wantErr api.Errno) {
	t.Helper()
	if got != want || e != wantErr {
		t.Fatalf("%s, %d, not %s, %d", shown(got), e, shown(want), wantErr)
	}
}

// lists: that a call told such a list, and such an error.
func lists[V comparable](t *testing.T, got []V, e api.Errno, want []V, wantErr api.Errno) {
	t.Helper()
	if !slices.Equal(got, want) || e != wantErr {
		t.Fatalf("%s, %d, not %s, %d", shown(got), e, shown(want), wantErr)
	}
}

// check: that each room is as in the document's words; the one whose change has no puts now and then.
func (b *bench) check() {
	b.t.Helper()
	b.checks++
	for k, r := range b.rooms {
		if k != b.at && b.checks%8 > 0 {
			continue
		}
		h := b.firm
		if k == b.at {
			h = b.want
		}
		last, e := r.Root(5)
		if b.down {
			tells(b.t, last, e, 0, api.ErrDown)
			continue
		}
		tells(b.t, last, e, h.last, api.OK)
		if b.lazy {
			continue
		}
		checkItems(b.t, r, h)
		checkMap(b.t, r, h)
		checkChunks(b.t, r, h)
		checkPages(b.t, r, h)
	}
}

// checkItems: what All, Find and Refs tell of each item there may be.
func checkItems(t *testing.T, r *room.Room, h *held) {
	t.Helper()
	places := map[[2]string]int{}
	for _, s := range someBuckets() {
		for _, item := range someItems() {
			places[[2]string{s, item}] = 1
		}
	}
	for _, x := range h.versions {
		places[[2]string{x.v.Bucket, x.v.Key}] = 1
	}
	for at := range places {
		checkItem(t, r, h, at[0], at[1])
	}
}

// paged: a version in the document's words, with the Page of the one that was told, if its recipe stands there.
func paged(t *testing.T, r *room.Room, x kept, told api.Version) api.Version {
	t.Helper()
	if x.v.ID == 0 || x.v.Marker || told.ID != x.v.ID {
		return x.v
	}
	bytes, e := blob.Get(r, told.Page)
	tells(t, bytes, e, bytesOf(x.refs), api.OK)
	x.v.Page = told.Page
	return x.v
}

// checkItem: what All, Find and Refs tell of an item.
func checkItem(t *testing.T, r *room.Room, h *held, bucket, item string) {
	t.Helper()
	all, e := version.All(r, bucket, item)
	want, wantErr := h.all(bucket, item), h.ofNames(bucket, item)
	if wantErr != api.OK {
		want = nil
	}
	for k := range min(len(want), len(all)) {
		want[k] = paged(t, r, h.versions[want[k].ID], all[k])
		refs, e := version.Refs(r, all[k])
		lists(t, refs, e, h.versions[want[k].ID].refs, api.OK)
	}
	lists(t, all, e, want, wantErr)
	ids := []uint64{0, 1, h.last, h.last + 1, math.MaxUint64}
	for _, v := range want {
		ids = append(ids, v.ID-1, v.ID, v.ID+1)
	}
	slices.Sort(ids)
	for _, id := range slices.Compact(ids) {
		want, wantErr := h.find(bucket, item, id)
		got, e := version.Find(r, bucket, item, id)
		tells(t, got, e, paged(t, r, h.versions[want.ID], got), wantErr)
	}
}

// checkMap: that in the map there are the keys of the buckets, and of the versions, and no others.
func checkMap(t *testing.T, r *room.Room, h *held) {
	t.Helper()
	m := tree.At(r, 4)
	n, e := m.Count()
	tells(t, n, e, len(h.states)+len(h.versions), api.OK)
	for s, state := range h.states {
		x, e := bucket.Find(r, s)
		tells(t, x, e, api.Bucket{Name: s, State: state}, api.OK)
	}
	for _, x := range h.versions {
		_, there, e := m.Get(name.VersionKey(x.v.Bucket, x.v.Key, x.v.ID))
		tells(t, there, e, true, api.OK)
	}
}

// checkChunks: that each chunk's count and pending count together are as many as it stands in recipes, and that those that stand in any are there.
func checkChunks(t *testing.T, r *room.Room, h *held) {
	t.Helper()
	s, standing := chunks.At(r), h.standing()
	all, e := s.All()
	says(t, e, api.OK)
	for _, c := range all {
		count, pending, e := s.Count(c.ID)
		tells(t, count+pending, e, standing[c.ID], api.OK)
		text, e := s.Get(c.ID)
		tells(t, refOf(text), e, api.Ref{ID: c.ID, Len: c.Len}, api.OK)
		delete(standing, c.ID)
	}
	if len(standing) > 0 {
		t.Fatalf("%d chunks that stand in recipes aren't there", len(standing))
	}
}

// checkPages: that no pages are taken but those of the maps, the chunks, the versions' recipes, and those that somebody else has; and that no numbers are there but those that the layers have.
func checkPages(t *testing.T, r *room.Room, h *held) {
	t.Helper()
	sum := len(h.others)
	for _, place := range []int{0, 1, 4} {
		n, e := tree.At(r, place).Check()
		says(t, e, api.OK)
		sum += n
	}
	all, e := chunks.At(r).All()
	says(t, e, api.OK)
	sum += len(all)
	for _, x := range h.versions {
		if !x.v.Marker {
			sum += pagesOf(x.refs)
		}
	}
	used, e := r.Used()
	tells(t, used, e, sum, api.OK)
	for place := range 16 {
		if n, e := r.Root(place); place == 3 || place > 5 {
			tells(t, n, e, 0, api.OK)
		}
	}
}

// state: of the change's homes, and how many puts it has.
type state struct {
	mark  int
	homes []string
}

// now: the state; of a lazy bench, and of one that is down, without the homes.
func (b *bench) now() state {
	b.t.Helper()
	now := state{mark: b.change().Mark()}
	for i := range b.homes {
		if b.down || b.lazy {
			break
		}
		s, e := b.change().Read(i)
		says(b.t, e, api.OK)
		now.homes = append(now.homes, s)
	}
	return now
}

// unchanged: that all is as it was.
func (b *bench) unchanged(was state) {
	b.t.Helper()
	now := b.now()
	if now.mark != was.mark || !slices.Equal(now.homes, was.homes) {
		b.t.Fatal("what only looks, or was refused, has changed something")
	}
	b.check()
}

// call: one of the program's that tells of a version.
type call func() (api.Version, api.Errno)

// roomy: with so many free pages, and a map of the few levels that it has here, nothing is refused for want of them.
func roomy(refs []api.Ref) int {
	return pagesOf(refs) + 3 + 2*3
}

// needs: how many free pages a call needs that puts such refs: with fewer ones it is refused, with as many it is done. Found by its being done in a room to which somebody else has given back pages, so that there are enough, or all of theirs; all is taken back. (One more than there can be, where these are too few.)
func (b *bench) needs(refs []api.Ref, do call) int {
	b.t.Helper()
	mark := b.room().Mark()
	defer b.room().Back(mark)
	for _, page := range b.want.others[max(0, len(b.want.others)+b.free()-roomy(refs)):] {
		says(b.t, b.room().Free(page), api.OK)
	}
	most := b.free()
	for n := range min(most, roomy(refs)) + 1 {
		whole := b.room().Mark()
		for range most - n {
			_, e := b.room().Alloc()
			says(b.t, e, api.OK)
		}
		_, e := do()
		b.room().Back(whole)
		if e == api.OK {
			return n
		}
		says(b.t, e, api.ErrFull)
	}
	if most >= roomy(refs) {
		b.t.Fatalf("refused with %d free pages", most)
	}
	return most + 1
}

// done: that a call, which may need room for such refs, is answered as the model is, and leaves what it does.
func (b *bench) done(do call, inWords func(h *held) (api.Version, api.Errno), refs []api.Ref, needsRoom bool) (api.Version, api.Errno) {
	b.t.Helper()
	after := b.want.copied()
	want, wantErr := inWords(after)
	switch {
	case b.down:
		wantErr = api.ErrDown
	case wantErr == api.OK && needsRoom && b.free() < roomy(refs) && b.free() < b.needs(refs, do):
		wantErr = api.ErrFull
	}
	if wantErr != api.OK {
		want = api.Version{}
	}
	was := b.now()
	got, e := do()
	tells(b.t, got, e, paged(b.t, b.room(), kept{want, refs}, got), wantErr)
	if e != api.OK {
		b.unchanged(was)
		return got, e
	}
	b.want = after
	b.check()
	return got, e
}

// putRefs: Put of refs.
func (b *bench) putRefs(bucket, item string, refs []api.Ref, now uint64) (api.Version, api.Errno) {
	b.t.Helper()
	return b.done(
		func() (api.Version, api.Errno) { return version.Put(b.room(), b.store(), bucket, item, refs, now) },
		func(h *held) (api.Version, api.Errno) { return h.put(bucket, item, refs, now) },
		refs, true)
}

// put: a text is built, and its recipe put. What was built is taken back, if the Put is refused.
func (b *bench) put(bucket, item, text string, now uint64) api.Errno {
	b.t.Helper()
	mark := b.room().Mark()
	refs, e := recipe.Build(b.store(), text)
	switch e {
	case api.OK:
		lists(b.t, refs, e, refsOf(text), api.OK)
		b.want.hand = refs
	case api.ErrFull:
		return e
	default:
		says(b.t, e, api.ErrDown)
		refs = refsOf(text)
	}
	_, e = b.putRefs(bucket, item, refs, now)
	b.want.hand = nil
	if e != api.OK {
		b.room().Back(mark)
		b.check()
	}
	return e
}

func (b *bench) delete(bucket, item string, now uint64) api.Errno {
	b.t.Helper()
	off := b.want.states[bucket] == 0
	_, e := b.done(
		func() (api.Version, api.Errno) { return version.Delete(b.room(), b.store(), bucket, item, now) },
		func(h *held) (api.Version, api.Errno) { return h.delete(bucket, item, now) },
		nil, !off)
	return e
}

func (b *bench) remove(bucket, item string, id uint64) api.Errno {
	b.t.Helper()
	_, e := b.done(
		func() (api.Version, api.Errno) {
			return api.Version{}, version.Remove(b.room(), b.store(), bucket, item, id)
		},
		func(h *held) (api.Version, api.Errno) { return api.Version{}, h.remove(bucket, item, id) },
		nil, false)
	return e
}

// removeKept: a version that is kept.
func (b *bench) removeKept(id uint64) {
	b.t.Helper()
	v := b.want.versions[id].v
	says(b.t, b.remove(v.Bucket, v.Key, id), api.OK)
}

func (b *bench) number() {
	b.t.Helper()
	b.done(
		func() (api.Version, api.Errno) {
			n, e := version.Number(b.room())
			return api.Version{Marker: n > 0, ID: n}, e
		},
		func(h *held) (api.Version, api.Errno) { return api.Version{Marker: true, ID: h.number()}, api.OK },
		nil, false)
}

// look: what All, Find and Refs tell of an item; nothing is put by it.
func (b *bench) look(bucket, item string) {
	b.t.Helper()
	was := b.now()
	if b.down {
		lost(b.t, b.room(), bucket, item)
	} else {
		checkItem(b.t, b.room(), b.want, bucket, item)
	}
	b.unchanged(was)
}

// lost: that what only looks answers ErrDown.
func lost(t *testing.T, r *room.Room, bucket, item string) {
	t.Helper()
	all, e := version.All(r, bucket, item)
	lists(t, all, e, nil, api.ErrDown)
	for _, id := range []uint64{0, 1, math.MaxUint64} {
		found, e := version.Find(r, bucket, item, id)
		tells(t, found, e, api.Version{}, api.ErrDown)
		for _, marker := range []bool{false, true} {
			refs, e := version.Refs(r, api.Version{Bucket: bucket, Key: item, ID: id, Marker: marker})
			lists(t, refs, e, nil, api.ErrDown)
		}
	}
}

// set: a bucket's State, whether there is one of that name or not.
func (b *bench) set(s string, state int) {
	b.t.Helper()
	e := bucket.Restore(b.room(), api.Bucket{Name: s, State: state})
	if e != api.ErrFull {
		says(b.t, e, api.OK)
		b.want.states[s] = state
	}
	b.check()
}

// drop: a bucket, if it is empty.
func (b *bench) drop(s string) {
	b.t.Helper()
	if e := bucket.Drop(b.room(), s); e == api.OK {
		delete(b.want.states, s)
	}
	b.check()
}

// merge: the first limit entries, if there is room for that.
func (b *bench) merge(limit int) {
	b.t.Helper()
	was := b.now()
	if _, e := b.store().Merge(limit); e != api.OK {
		says(b.t, e, api.ErrFull)
		b.unchanged(was)
	}
	b.check()
}

func (b *bench) reclaim(limit int) {
	b.t.Helper()
	_, e := b.store().Reclaim(limit)
	says(b.t, e, api.OK)
	b.check()
}

// rest: all is merged, and reclaimed: just the chunks that stand anywhere are there, each counted as often as it does.
func (b *bench) rest() {
	b.t.Helper()
	b.leave(9)
	b.merge(math.MaxInt)
	b.reclaim(math.MaxInt)
	standing := b.want.standing()
	all, e := b.store().All()
	says(b.t, e, api.OK)
	for _, c := range all {
		tells(b.t, c.Count, api.OK, standing[c.ID], api.OK)
	}
	waits, e := b.store().Waits()
	tells(b.t, waits, e, 0, api.OK)
	tells(b.t, len(all), api.OK, len(standing), api.OK)
}

// emptied: all versions are given up, and all comes to rest: just the buckets take pages.
func (b *bench) emptied() {
	b.t.Helper()
	b.lazy = false
	b.check()
	b.lazy = true
	for _, id := range b.want.numbers() {
		b.removeKept(id)
	}
	b.lazy = false
	b.rest()
	used, e := b.room().Used()
	says(b.t, e, api.OK)
	pages, e := tree.At(b.room(), 4).Check()
	tells(b.t, pages+len(b.want.others), e, used, api.OK)
	list, e := bucket.Names(b.room())
	lists(b.t, list, e, slices.Sorted(maps.Keys(b.want.states)), api.OK)
	count, e := tree.At(b.room(), 4).Count()
	tells(b.t, count, e, len(list), api.OK)
}

// free: how many pages are; 0, if the log is down.
func (b *bench) free() int {
	b.t.Helper()
	if b.down {
		return 0
	}
	used, e := b.room().Used()
	says(b.t, e, api.OK)
	return b.room().Pages() - used
}

// leave: somebody else takes pages, or gives them back, so that so many are free, if there are so many.
func (b *bench) leave(free int) {
	b.t.Helper()
	for now := b.free(); now > free; now-- {
		page, e := b.room().Alloc()
		says(b.t, e, api.OK)
		b.want.others = append(b.want.others, page)
	}
	for now := b.free(); now < free && len(b.want.others) > 0; now++ {
		last := len(b.want.others) - 1
		says(b.t, b.room().Free(b.want.others[last]), api.OK)
		b.want.others = b.want.others[:last]
	}
	b.check()
}

// mark: what the room tells now, kept for back.
func (b *bench) mark() int {
	mark := b.room().Mark()
	b.marks = append(b.marks, marked{mark, b.want.copied()})
	return mark
}

// back: to a mark that mark told.
func (b *bench) back(mark int) {
	b.t.Helper()
	if mark < b.change().Mark() {
		for len(b.marks) > 1 && b.marks[len(b.marks)-1].mark > mark {
			b.marks = b.marks[:len(b.marks)-1]
		}
		b.want = b.marks[len(b.marks)-1].was.copied()
	}
	b.room().Back(mark)
	b.check()
}

// commit: the change; what its room has is what the log has then. The other room's turn comes.
func (b *bench) commit() {
	b.t.Helper()
	says(b.t, b.change().Commit(), api.OK)
	b.firm = b.want
	b.fresh()
	b.at, b.checks = 1-b.at, -1
	b.check()
}

// forget: the change is given up; its room is as the log is. The other room's turn comes.
func (b *bench) forget() {
	b.t.Helper()
	b.change().Drop()
	b.fresh()
	b.at, b.checks = 1-b.at, -1
	b.check()
}

// bringDown: brings the log down, by a step of its own.
func (b *bench) bringDown() {
	b.t.Helper()
	b.disk.Fuel(0)
	says(b.t, b.log.Commit([]api.Put{{At: 0, Text: "down"}}), api.ErrDown)
	b.down = true
	b.check()
}

// reopen: the log is opened again behind a fall.
func (b *bench) reopen() {
	b.t.Helper()
	b.disk.Fall(nil)
	b.open()
	b.check()
}
