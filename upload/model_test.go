package upload_test

import (
	"cmp"
	"crypto/sha256"
	"fmt"
	"maps"
	"math"
	"regexp"
	"slices"
	"strings"
	"testing"

	"cooperage/api"
	"cooperage/blob"
	"cooperage/bucket"
	"cooperage/chunks"
	"cooperage/cut"
	"cooperage/name"
	"cooperage/recipe"
	"cooperage/room"
	"cooperage/sector"
	"cooperage/tree"
	"cooperage/tx"
	"cooperage/upload"
	"cooperage/version"
	"cooperage/wal"
)

// Uploads, and versions beside them, in the document's words.

// names: 3 to 16 of a to z, digits and -, no - first or last.
var names = regexp.MustCompile(`\A[a-z0-9][a-z0-9-]{1,14}[a-z0-9]\z`)

// isItem: 1 to 40 bytes, none of them 0.
func isItem(s string) bool {
	return 1 <= len(s) && len(s) <= 40 && !strings.Contains(s, "\x00")
}

// refOf: of the first chunk with a text: its name is SHA-256, by the language's library, and a byte 0.
func refOf(text string) api.Ref {
	sum := sha256.Sum256([]byte(text))
	return api.Ref{ID: string(sum[:]) + "\x00", Len: len(text)}
}

// refsOf: of each of a text's chunks.
func refsOf(text string) []api.Ref {
	var refs []api.Ref
	for _, one := range cut.Cut(text) {
		refs = append(refs, refOf(one))
	}
	return refs
}

func isRecipe(refs []api.Ref) bool {
	for _, ref := range refs {
		if len(ref.ID) != 33 || ref.Len < 1 || ref.Len > 128 {
			return false
		}
	}
	return len(refs) <= 4000
}

// bytesOf: of each ref the name, and its Len.
func bytesOf(refs []api.Ref) string {
	var list []string
	for _, ref := range refs {
		list = append(list, ref.ID, string([]byte{byte(ref.Len)}))
	}
	return strings.Join(list, "")
}

func sizeOf(refs []api.Ref) int {
	size := 0
	for _, ref := range refs {
		size += ref.Len
	}
	return size
}

// pagesOf: as many as the least whole number that isn't below the bytes' number / 506, and 1 at least.
func pagesOf(refs []api.Ref) int {
	return max(1, (34*len(refs)+505)/506)
}

// kept: a version, but for its Page, and its recipe.
type kept struct {
	v    api.Version
	refs []api.Ref
}

// begun: an upload, in its bucket, and the recipes of its parts by their numbers.
type begun struct {
	bucket string
	u      api.Upload
	parts  map[int][]api.Ref
}

// held: a room: its buckets' States by their names; versions and uploads by their numbers; the last number that was told; a recipe that somebody has built, and nothing has yet; and pages that somebody else has.
type held struct {
	states   map[string]int
	versions map[uint64]kept
	uploads  map[uint64]begun
	last     uint64
	hand     []api.Ref
	others   []int
}

func (h *held) copied() *held {
	c := &held{maps.Clone(h.states), maps.Clone(h.versions), maps.Clone(h.uploads), h.last, h.hand, slices.Clone(h.others)}
	for id, x := range c.uploads {
		x.parts = maps.Clone(x.parts)
		c.uploads[id] = x
	}
	return c
}

// ofBucket: OK, or the first error there is.
func (h *held) ofBucket(bucket string) api.Errno {
	_, there := h.states[bucket]
	switch {
	case !names.MatchString(bucket):
		return api.BadName
	case !there:
		return api.NoBucket
	}
	return api.OK
}

func (h *held) ofNames(bucket, item string) api.Errno {
	if !isItem(item) {
		return api.BadName
	}
	return h.ofBucket(bucket)
}

func (h *held) ofUpload(bucket, item string, id uint64) api.Errno {
	if e := h.ofNames(bucket, item); e != api.OK {
		return e
	}
	if x, there := h.uploads[id]; !there || x.bucket != bucket || x.u.Key != item {
		return api.NoUpload
	}
	return api.OK
}

// all: an item's versions, the latest first.
func (h *held) all(bucket, item string) []api.Version {
	var list []api.Version
	for _, x := range h.versions {
		if x.v.Bucket == bucket && x.v.Key == item {
			list = append(list, x.v)
		}
	}
	slices.SortFunc(list, func(x, y api.Version) int { return cmp.Compare(y.ID, x.ID) })
	return list
}

// begunIn: a bucket's uploads, by items, then numbers.
func (h *held) begunIn(bucket string) []api.Upload {
	var list []api.Upload
	for _, x := range h.uploads {
		if x.bucket == bucket {
			list = append(list, x.u)
		}
	}
	slices.SortFunc(list, func(x, y api.Upload) int {
		return cmp.Or(strings.Compare(x.Key, y.Key), cmp.Compare(x.ID, y.ID))
	})
	return list
}

// parts: an upload's, rising, but for their Pages.
func (h *held) parts(id uint64) []api.Part {
	var list []api.Part
	for _, n := range slices.Sorted(maps.Keys(h.uploads[id].parts)) {
		list = append(list, api.Part{N: n, Size: sizeOf(h.uploads[id].parts[n])})
	}
	return list
}

// givePlain: gives up an item's plain version, if there is one.
func (h *held) givePlain(bucket, item string) {
	for _, v := range h.all(bucket, item) {
		if v.Plain {
			delete(h.versions, v.ID)
		}
	}
}

func (h *held) number() uint64 {
	h.last++
	return h.last
}

// add: a version with a number of its own.
func (h *held) add(v api.Version, refs []api.Ref) api.Version {
	v.ID = h.number()
	h.versions[v.ID] = kept{v, refs}
	return v
}

// put: a version, but for ErrFull and ErrBig.
func (h *held) put(bucket, item string, refs []api.Ref, now uint64) (api.Version, api.Errno) {
	e := h.ofNames(bucket, item)
	switch {
	case e != api.OK:
		return api.Version{}, e
	case !isRecipe(refs):
		return api.Version{}, api.ErrArg
	}
	plain := h.states[bucket] != 1
	if plain {
		h.givePlain(bucket, item)
	}
	h.hand = nil
	return h.add(api.Version{Bucket: bucket, Key: item, Plain: plain, Born: now, Size: sizeOf(refs)}, slices.Clone(refs)), api.OK
}

// delete: an item, but for ErrFull.
func (h *held) delete(bucket, item string, now uint64) (api.Version, api.Errno) {
	if e := h.ofNames(bucket, item); e != api.OK {
		return api.Version{}, e
	}
	marker := api.Version{Bucket: bucket, Key: item, Marker: true, Born: now}
	switch h.states[bucket] {
	case 1:
		return h.add(marker, nil), api.OK
	case 2:
		h.givePlain(bucket, item)
		marker.Plain = true
		return h.add(marker, nil), api.OK
	}
	h.givePlain(bucket, item)
	return api.Version{}, api.OK
}

// remove: a version.
func (h *held) remove(bucket, item string, id uint64) api.Errno {
	if e := h.ofNames(bucket, item); e != api.OK {
		return e
	}
	if x, there := h.versions[id]; !there || x.v.Bucket != bucket || x.v.Key != item {
		return api.NoVersion
	}
	delete(h.versions, id)
	return api.OK
}

// start: but for ErrFull.
func (h *held) start(bucket, item string, now uint64) (uint64, api.Errno) {
	if e := h.ofNames(bucket, item); e != api.OK {
		return 0, e
	}
	id := h.number()
	h.uploads[id] = begun{bucket, api.Upload{Key: item, ID: id, Born: now}, map[int][]api.Ref{}}
	return id, api.OK
}

// putPart: but for ErrFull and layer 8's ErrBig.
func (h *held) putPart(bucket, item string, id uint64, n int, refs []api.Ref) api.Errno {
	e := h.ofUpload(bucket, item, id)
	switch {
	case e != api.OK:
		return e
	case n < 1 || n > 16:
		return api.BadPart
	case !isRecipe(refs):
		return api.ErrArg
	}
	h.uploads[id].parts[n] = slices.Clone(refs)
	h.hand = nil
	return api.OK
}

// joined: the recipes of an upload's parts, one behind the other; false, if the list isn't one of them.
func (h *held) joined(id uint64, list []int) ([]api.Ref, bool) {
	var refs []api.Ref
	ok := len(list) > 0
	for k, n := range list {
		part, there := h.uploads[id].parts[n]
		ok = ok && there && (k == 0 || list[k-1] < n)
		refs = append(refs, part...)
	}
	return refs, ok
}

// finish: but for ErrFull and layer 8's ErrBig.
func (h *held) finish(bucket, item string, id uint64, list []int, now uint64) (api.Version, api.Errno) {
	if e := h.ofUpload(bucket, item, id); e != api.OK {
		return api.Version{}, e
	}
	refs, ok := h.joined(id, list)
	switch {
	case !ok:
		return api.Version{}, api.BadPart
	case len(refs) > 4000:
		return api.Version{}, api.ErrBig
	}
	delete(h.uploads, id)
	return h.put(bucket, item, refs, now)
}

func (h *held) abort(bucket, item string, id uint64) api.Errno {
	if e := h.ofUpload(bucket, item, id); e != api.OK {
		return e
	}
	delete(h.uploads, id)
	return api.OK
}

// recipes: all of versions, of parts, and the one that somebody has.
func (h *held) recipes() [][]api.Ref {
	list := [][]api.Ref{h.hand}
	for _, x := range h.versions {
		list = append(list, x.refs)
	}
	for _, x := range h.uploads {
		for _, refs := range x.parts {
			list = append(list, refs)
		}
	}
	return list
}

// standing: how often each chunk stands in recipes.
func (h *held) standing() map[string]int64 {
	counts := map[string]int64{}
	for _, refs := range h.recipes() {
		for _, ref := range refs {
			counts[ref.ID]++
		}
	}
	return counts
}

// numbers: of all versions, rising.
func (h *held) numbers() []uint64 {
	return slices.Sorted(maps.Keys(h.versions))
}

// begunNumbers: of all uploads, rising.
func (h *held) begunNumbers() []uint64 {
	return slices.Sorted(maps.Keys(h.uploads))
}

// marked: a mark that was told, and what the room was then.
type marked struct {
	mark int
	was  *held
}

// bench: two rooms, each of a change of its own, of one log, and the same in the document's words. At any time one of the changes has puts, the other one has none.
type bench struct {
	t       *testing.T
	disk    *sector.Disk
	log     *wal.Log
	changes [2]*tx.Tx
	rooms   [2]*room.Room
	homes   int
	down    bool
	lazy    bool // whether checks leave out what takes long
	checks  int
	at      int   // whose change may have puts
	want    *held // what its room has
	marks   []marked
	firm    *held // what the log has
}

// ring: sectors of the log's ring.
const ring = 700

// laid: rooms of so many pages.
func laid(t *testing.T, pages int) *bench {
	t.Helper()
	homes := 1 + pages + (pages+4095)/4096
	d, e := sector.New(1 + ring + homes)
	says(t, e, api.OK)
	b := &bench{t: t, disk: d, homes: homes, firm: &held{states: map[string]int{}, versions: map[uint64]kept{}, uploads: map[uint64]begun{}}}
	b.open()
	if got := b.room().Pages(); got != pages {
		t.Fatalf("%d pages, not %d", got, pages)
	}
	return b
}

// open: the log on the disk, with changes and rooms of their own.
func (b *bench) open() {
	b.t.Helper()
	l, e := wal.Open(b.disk, ring)
	says(b.t, e, api.OK)
	b.log, b.down = l, false
	for k := range b.rooms {
		b.changes[k] = tx.Begin(l)
		b.rooms[k] = room.Of(b.changes[k])
	}
	b.fresh()
}

// fresh: the rooms are as the log is.
func (b *bench) fresh() {
	b.want = b.firm.copied()
	b.marks = []marked{{0, b.firm.copied()}}
}

func (b *bench) room() *room.Room {
	return b.rooms[b.at]
}

func (b *bench) change() *tx.Tx {
	return b.changes[b.at]
}

func (b *bench) store() *chunks.Store {
	return chunks.At(b.room())
}

func says(t *testing.T, got, want api.Errno) {
	t.Helper()
	if got != want {
		t.Fatalf("%d, not %d", got, want)
	}
}

// shown: a value in Go's words, or how they begin.
func shown(v any) string {
	words := fmt.Sprintf("%#v", v)
	return words[:min(len(words), 400)]
}

// tells: that a call told such a thing, and such an error.
func tells[V comparable](t *testing.T, got V, e api.Errno, want V, wantErr api.Errno) {
	t.Helper()
	if got != want || e != wantErr {
		t.Fatalf("%s, %d, not %s, %d", shown(got), e, shown(want), wantErr)
	}
}

// lists: that a call told such a list, and such an error.
func lists[V comparable](t *testing.T, got []V, e api.Errno, want []V, wantErr api.Errno) {
	t.Helper()
	if !slices.Equal(got, want) || e != wantErr {
		t.Fatalf("%s, %d, not %s, %d", shown(got), e, shown(want), wantErr)
	}
}

// check: that each room is as in the document's words; the one whose change has no puts now and then.
func (b *bench) check() {
	b.t.Helper()
	b.checks++
	for k, r := range b.rooms {
		if k != b.at && b.checks%8 > 0 {
			continue
		}
		h := b.firm
		if k == b.at {
			h = b.want
		}
		last, e := r.Root(5)
		if b.down {
			tells(b.t, last, e, 0, api.ErrDown)
			continue
		}
		tells(b.t, last, e, h.last, api.OK)
		if b.lazy {
			continue
		}
		checkRoom(b.t, r, h)
	}
}

// checkRoom: that a room is as in the document's words.
func checkRoom(t *testing.T, r *room.Room, h *held) {
	t.Helper()
	for _, s := range append(someBuckets(), "none", "", "a.c") {
		checkBucket(t, r, h, s)
	}
	for at := range places(h) {
		checkVersions(t, r, h, at[0], at[1])
		checkUploads(t, r, h, at[0], at[1])
	}
	checkMap(t, r, h)
	checkChunks(t, r, h)
	checkPages(t, r, h)
}

// places: buckets and items of which something may be asked.
func places(h *held) map[[2]string]int {
	list := map[[2]string]int{}
	for _, s := range someBuckets() {
		for _, item := range someItems()[:4] {
			list[[2]string{s, item}] = 1
		}
	}
	for _, x := range h.versions {
		list[[2]string{x.v.Bucket, x.v.Key}] = 1
	}
	for _, x := range h.uploads {
		list[[2]string{x.bucket, x.u.Key}] = 1
	}
	return list
}

// checkBucket: what All tells of a bucket.
func checkBucket(t *testing.T, r *room.Room, h *held, bucket string) {
	t.Helper()
	all, e := upload.All(r, bucket)
	want, wantErr := h.begunIn(bucket), h.ofBucket(bucket)
	if wantErr != api.OK {
		want = nil
	}
	lists(t, all, e, want, wantErr)
}

// paged: a version in the document's words, with the Page of the one that was told, if its recipe stands there.
func paged(t *testing.T, r *room.Room, x kept, told api.Version) api.Version {
	t.Helper()
	if x.v.ID == 0 || x.v.Marker || told.ID != x.v.ID {
		return x.v
	}
	bytes, e := blob.Get(r, told.Page)
	tells(t, bytes, e, bytesOf(x.refs), api.OK)
	x.v.Page = told.Page
	return x.v
}

// checkVersions: which versions an item has, and what their recipes are.
func checkVersions(t *testing.T, r *room.Room, h *held, bucket, item string) {
	t.Helper()
	all, e := version.All(r, bucket, item)
	want, wantErr := h.all(bucket, item), h.ofNames(bucket, item)
	if wantErr != api.OK {
		want = nil
	}
	for k := range min(len(want), len(all)) {
		want[k] = paged(t, r, h.versions[want[k].ID], all[k])
		refs, e := version.Refs(r, all[k])
		lists(t, refs, e, h.versions[want[k].ID].refs, api.OK)
	}
	lists(t, all, e, want, wantErr)
}

// checkUploads: what Parts tells of each of an item's uploads, and of numbers that it has none of; and Refs of each part.
func checkUploads(t *testing.T, r *room.Room, h *held, bucket, item string) {
	t.Helper()
	ids := append(h.begunNumbers(), 0, 1, h.last, h.last+1, math.MaxUint64)
	for _, v := range h.all(bucket, item) {
		ids = append(ids, v.ID)
	}
	slices.Sort(ids)
	for _, id := range slices.Compact(ids) {
		checkParts(t, r, h, bucket, item, id)
	}
}

// checkParts: what Parts tells of an item's upload, and Refs of each part.
func checkParts(t *testing.T, r *room.Room, h *held, bucket, item string, id uint64) {
	t.Helper()
	parts, e := upload.Parts(r, bucket, item, id)
	want, wantErr := h.parts(id), h.ofUpload(bucket, item, id)
	if wantErr != api.OK {
		want = nil
	}
	for k := range min(len(want), len(parts)) {
		whole := h.uploads[id].parts[want[k].N]
		bytes, e := blob.Get(r, parts[k].Page)
		tells(t, bytes, e, bytesOf(whole), api.OK)
		want[k].Page = parts[k].Page
		refs, e := upload.Refs(r, parts[k])
		lists(t, refs, e, whole, api.OK)
	}
	lists(t, parts, e, want, wantErr)
}

// checkMap: that in the map there are the keys of the buckets, the versions, the uploads and the parts, and no others.
func checkMap(t *testing.T, r *room.Room, h *held) {
	t.Helper()
	var keys []string
	for s, state := range h.states {
		x, e := bucket.Find(r, s)
		tells(t, x, e, api.Bucket{Name: s, State: state}, api.OK)
		keys = append(keys, name.BucketKey(s))
	}
	for _, x := range h.versions {
		keys = append(keys, name.VersionKey(x.v.Bucket, x.v.Key, x.v.ID))
	}
	for id, x := range h.uploads {
		keys = append(keys, name.UploadKey(x.bucket, x.u.Key, id))
		for n := range x.parts {
			keys = append(keys, name.PartKey(id, n))
		}
	}
	slices.Sort(keys)
	pairs, e := tree.At(r, 4).Scan("", "", math.MaxInt)
	var got []string
	for _, p := range pairs {
		got = append(got, p.Key)
	}
	lists(t, got, e, keys, api.OK)
}

// checkChunks: that each chunk's count and pending count together are as many as it stands in recipes, and that those that stand in any are there.
func checkChunks(t *testing.T, r *room.Room, h *held) {
	t.Helper()
	s, standing := chunks.At(r), h.standing()
	all, e := s.All()
	says(t, e, api.OK)
	for _, c := range all {
		count, pending, e := s.Count(c.ID)
		tells(t, count+pending, e, standing[c.ID], api.OK)
		text, e := s.Get(c.ID)
		tells(t, refOf(text), e, api.Ref{ID: c.ID, Len: c.Len}, api.OK)
		delete(standing, c.ID)
	}
	if len(standing) > 0 {
		t.Fatalf("%d chunks that stand in recipes aren't there", len(standing))
	}
}

// checkPages: that no pages are taken but those of the maps, the chunks, the recipes of versions and parts, and those that somebody else has; and that no numbers are there but those that the layers have.
func checkPages(t *testing.T, r *room.Room, h *held) {
	t.Helper()
	sum := len(h.others)
	for _, place := range []int{0, 1, 4} {
		n, e := tree.At(r, place).Check()
		says(t, e, api.OK)
		sum += n
	}
	all, e := chunks.At(r).All()
	says(t, e, api.OK)
	sum += len(all)
	for _, x := range h.versions {
		if !x.v.Marker {
			sum += pagesOf(x.refs)
		}
	}
	for _, x := range h.uploads {
		for _, refs := range x.parts {
			sum += pagesOf(refs)
		}
	}
	used, e := r.Used()
	tells(t, used, e, sum, api.OK)
	for place := range 16 {
		if n, e := r.Root(place); place == 3 || place > 5 {
			tells(t, n, e, 0, api.OK)
		}
	}
}

// state: of the change's homes, and how many puts it has.
type state struct {
	mark  int
	homes []string
}

// now: the state; of a lazy bench, and of one that is down, without the homes.
func (b *bench) now() state {
	b.t.Helper()
	now := state{mark: b.change().Mark()}
	for i := range b.homes {
		if b.down || b.lazy {
			break
		}
		s, e := b.change().Read(i)
		says(b.t, e, api.OK)
		now.homes = append(now.homes, s)
	}
	return now
}

// stays: that the change is as it was, whatever the document says of it.
func (b *bench) stays(was state) {
	b.t.Helper()
	if now := b.now(); now.mark != was.mark || !slices.Equal(now.homes, was.homes) {
		b.t.Fatal("what only looks, or was refused, has changed something")
	}
}

// unchanged: that all is as it was.
func (b *bench) unchanged(was state) {
	b.t.Helper()
	b.stays(was)
	b.check()
}

// call: one of the program's that tells of a version.
type call func() (api.Version, api.Errno)

// roomy: with so many free pages, and a map of the few levels that it has here, nothing is refused for want of them.
func roomy(refs []api.Ref) int {
	return pagesOf(refs) + 3 + 2*3
}

// needs: how many free pages a call needs that puts such refs: with fewer ones it is refused, with as many it is done. Found by its being done in a room to which somebody else has given back pages, so that there are enough, or all of theirs; all is taken back. (One more than there can be, where these are too few.)
func (b *bench) needs(refs []api.Ref, do call) int {
	b.t.Helper()
	mark := b.room().Mark()
	defer b.room().Back(mark)
	for _, page := range b.want.others[max(0, len(b.want.others)+b.free()-roomy(refs)):] {
		says(b.t, b.room().Free(page), api.OK)
	}
	most := b.free()
	for n := range min(most, roomy(refs)) + 1 {
		whole := b.room().Mark()
		for range most - n {
			_, e := b.room().Alloc()
			says(b.t, e, api.OK)
		}
		_, e := do()
		b.room().Back(whole)
		if e == api.OK {
			return n
		}
		says(b.t, e, api.ErrFull)
	}
	if most >= roomy(refs) {
		b.t.Fatalf("refused with %d free pages", most)
	}
	return most + 1
}

// done: that a call, which may need room for such refs, is answered as the model is, and leaves what it does. A version that it tells is of a recipe that the model then has.
func (b *bench) done(do call, inWords func(h *held) (api.Version, api.Errno), refs []api.Ref, needsRoom bool) (api.Version, api.Errno) {
	b.t.Helper()
	after := b.want.copied()
	want, wantErr := inWords(after)
	switch {
	case b.down:
		wantErr = api.ErrDown
	case wantErr == api.OK && needsRoom && b.free() < roomy(refs) && b.free() < b.needs(refs, do):
		wantErr = api.ErrFull
	}
	if wantErr != api.OK {
		want = api.Version{}
	}
	was := b.now()
	got, e := do()
	tells(b.t, got, e, paged(b.t, b.room(), kept{want, after.versions[want.ID].refs}, got), wantErr)
	if e != api.OK {
		b.unchanged(was)
		return got, e
	}
	b.want = after
	b.check()
	return got, e
}

// putRefs: a version of refs.
func (b *bench) putRefs(bucket, item string, refs []api.Ref, now uint64) api.Errno {
	b.t.Helper()
	_, e := b.done(
		func() (api.Version, api.Errno) { return version.Put(b.room(), b.store(), bucket, item, refs, now) },
		func(h *held) (api.Version, api.Errno) { return h.put(bucket, item, refs, now) },
		refs, true)
	return e
}

// build: a text is built, and its recipe is put by a call. What was built is taken back, if that is refused.
func (b *bench) build(text string, put func(refs []api.Ref) api.Errno) api.Errno {
	b.t.Helper()
	mark := b.room().Mark()
	refs, e := recipe.Build(b.store(), text)
	switch e {
	case api.OK:
		lists(b.t, refs, e, refsOf(text), api.OK)
		b.want.hand = refs
	case api.ErrFull:
		return e
	default:
		says(b.t, e, api.ErrDown)
		refs = refsOf(text)
	}
	e = put(refs)
	b.want.hand = nil
	if e != api.OK {
		b.room().Back(mark)
		b.check()
	}
	return e
}

// put: a version of a text.
func (b *bench) put(bucket, item, text string, now uint64) api.Errno {
	b.t.Helper()
	return b.build(text, func(refs []api.Ref) api.Errno {
		b.t.Helper()
		return b.putRefs(bucket, item, refs, now)
	})
}

// delete: an item.
func (b *bench) delete(bucket, item string, now uint64) api.Errno {
	b.t.Helper()
	off := b.want.states[bucket] == 0
	_, e := b.done(
		func() (api.Version, api.Errno) { return version.Delete(b.room(), b.store(), bucket, item, now) },
		func(h *held) (api.Version, api.Errno) { return h.delete(bucket, item, now) },
		nil, !off)
	return e
}

// remove: a version.
func (b *bench) remove(bucket, item string, id uint64) api.Errno {
	b.t.Helper()
	_, e := b.done(
		func() (api.Version, api.Errno) {
			return api.Version{}, version.Remove(b.room(), b.store(), bucket, item, id)
		},
		func(h *held) (api.Version, api.Errno) { return api.Version{}, h.remove(bucket, item, id) },
		nil, false)
	return e
}

// removeKept: a version that is kept.
func (b *bench) removeKept(id uint64) {
	b.t.Helper()
	v := b.want.versions[id].v
	says(b.t, b.remove(v.Bucket, v.Key, id), api.OK)
}

// numbered: a number, with which it is told whether there is one, as a call tells of a version.
func numbered(id uint64, e api.Errno) (api.Version, api.Errno) {
	return api.Version{Marker: id > 0, ID: id}, e
}

func (b *bench) number() {
	b.t.Helper()
	b.done(
		func() (api.Version, api.Errno) { return numbered(version.Number(b.room())) },
		func(h *held) (api.Version, api.Errno) { return numbered(h.number(), api.OK) },
		nil, false)
}

func (b *bench) start(bucket, item string, now uint64) (uint64, api.Errno) {
	b.t.Helper()
	got, e := b.done(
		func() (api.Version, api.Errno) { return numbered(upload.Start(b.room(), bucket, item, now)) },
		func(h *held) (api.Version, api.Errno) { return numbered(h.start(bucket, item, now)) },
		nil, true)
	return got.ID, e
}

// started: an upload for which there is room.
func (b *bench) started(bucket, item string) uint64 {
	b.t.Helper()
	id, e := b.start(bucket, item, b.want.last)
	says(b.t, e, api.OK)
	return id
}

// partRefs: Put of refs.
func (b *bench) partRefs(bucket, item string, id uint64, n int, refs []api.Ref) api.Errno {
	b.t.Helper()
	_, e := b.done(
		func() (api.Version, api.Errno) {
			return api.Version{}, upload.Put(b.room(), b.store(), bucket, item, id, n, refs)
		},
		func(h *held) (api.Version, api.Errno) { return api.Version{}, h.putPart(bucket, item, id, n, refs) },
		refs, true)
	return e
}

// part: Put of a text.
func (b *bench) part(bucket, item string, id uint64, n int, text string) api.Errno {
	b.t.Helper()
	return b.build(text, func(refs []api.Ref) api.Errno {
		b.t.Helper()
		return b.partRefs(bucket, item, id, n, refs)
	})
}

// parts: Put of texts, for which there is room, under the numbers from 1 on.
func (b *bench) parts(bucket, item string, id uint64, texts ...string) {
	b.t.Helper()
	for k, text := range texts {
		says(b.t, b.part(bucket, item, id, k+1, text), api.OK)
	}
}

func (b *bench) finish(bucket, item string, id uint64, list []int, now uint64) (api.Version, api.Errno) {
	b.t.Helper()
	return b.done(
		func() (api.Version, api.Errno) {
			return upload.Finish(b.room(), b.store(), bucket, item, id, list, now)
		},
		func(h *held) (api.Version, api.Errno) { return h.finish(bucket, item, id, list, now) },
		nil, true)
}

func (b *bench) abort(bucket, item string, id uint64) api.Errno {
	b.t.Helper()
	_, e := b.done(
		func() (api.Version, api.Errno) {
			return api.Version{}, upload.Abort(b.room(), b.store(), bucket, item, id)
		},
		func(h *held) (api.Version, api.Errno) { return api.Version{}, h.abort(bucket, item, id) },
		nil, false)
	return e
}

// abortBegun: an upload that is there.
func (b *bench) abortBegun(id uint64) {
	b.t.Helper()
	x := b.want.uploads[id]
	says(b.t, b.abort(x.bucket, x.u.Key, id), api.OK)
}

// look: what All, Parts and Refs tell of an item and its bucket; nothing is put by it.
func (b *bench) look(bucket, item string) {
	b.t.Helper()
	was := b.now()
	if b.down {
		lost(b.t, b.room(), bucket, item)
	} else {
		checkBucket(b.t, b.room(), b.want, bucket)
		checkUploads(b.t, b.room(), b.want, bucket, item)
		checkVersions(b.t, b.room(), b.want, bucket, item)
	}
	b.unchanged(was)
}

// lost: that what only looks answers ErrDown.
func lost(t *testing.T, r *room.Room, bucket, item string) {
	t.Helper()
	all, e := upload.All(r, bucket)
	lists(t, all, e, nil, api.ErrDown)
	for _, id := range []uint64{0, 1, math.MaxUint64} {
		parts, e := upload.Parts(r, bucket, item, id)
		lists(t, parts, e, nil, api.ErrDown)
	}
	for _, p := range []api.Part{{}, {N: 1}, {N: 1, Size: 5, Page: 3}, {N: -1, Size: -1, Page: -1}, {N: 17, Page: math.MaxInt}} {
		refs, e := upload.Refs(r, p)
		lists(t, refs, e, nil, api.ErrDown)
	}
}

// set: a bucket's State, whether there is one of that name or not.
func (b *bench) set(s string, state int) {
	b.t.Helper()
	e := bucket.Restore(b.room(), api.Bucket{Name: s, State: state})
	if e != api.ErrFull {
		says(b.t, e, api.OK)
		b.want.states[s] = state
	}
	b.check()
}

// drop: a bucket, if nothing of versions or uploads stands in it.
func (b *bench) drop(s string) {
	b.t.Helper()
	want := b.want.ofBucket(s)
	if want == api.OK && len(b.want.begunIn(s)) > 0 {
		want = api.NotEmpty
	}
	for _, x := range b.want.versions {
		if want == api.OK && x.v.Bucket == s {
			want = api.NotEmpty
		}
	}
	says(b.t, bucket.Drop(b.room(), s), want)
	if want == api.OK {
		delete(b.want.states, s)
	}
	b.check()
}

// merge: the first limit entries, if there is room for that.
func (b *bench) merge(limit int) {
	b.t.Helper()
	was := b.now()
	if _, e := b.store().Merge(limit); e != api.OK {
		says(b.t, e, api.ErrFull)
		b.unchanged(was)
	}
	b.check()
}

func (b *bench) reclaim(limit int) {
	b.t.Helper()
	_, e := b.store().Reclaim(limit)
	says(b.t, e, api.OK)
	b.check()
}

// rest: all is merged, and reclaimed: just the chunks that stand anywhere are there, each counted as often as it does.
func (b *bench) rest() {
	b.t.Helper()
	b.leave(9)
	b.merge(math.MaxInt)
	b.reclaim(math.MaxInt)
	standing := b.want.standing()
	all, e := b.store().All()
	says(b.t, e, api.OK)
	for _, c := range all {
		tells(b.t, c.Count, api.OK, standing[c.ID], api.OK)
	}
	waits, e := b.store().Waits()
	tells(b.t, waits, e, 0, api.OK)
	tells(b.t, len(all), api.OK, len(standing), api.OK)
}

// emptied: all versions are removed, all uploads given up, and all comes to rest: just the buckets take pages.
func (b *bench) emptied() {
	b.t.Helper()
	b.lazy = false
	b.check()
	b.lazy = true
	for _, id := range b.want.numbers() {
		b.removeKept(id)
	}
	for _, id := range b.want.begunNumbers() {
		b.abortBegun(id)
	}
	b.lazy = false
	b.rest()
	used, e := b.room().Used()
	says(b.t, e, api.OK)
	pages, e := tree.At(b.room(), 4).Check()
	tells(b.t, pages+len(b.want.others), e, used, api.OK)
	list, e := bucket.Names(b.room())
	lists(b.t, list, e, slices.Sorted(maps.Keys(b.want.states)), api.OK)
	count, e := tree.At(b.room(), 4).Count()
	tells(b.t, count, e, len(list), api.OK)
	for _, s := range list {
		empty, e := bucket.Empty(b.room(), s)
		tells(b.t, empty, e, true, api.OK)
	}
}

// free: how many pages are; 0, if the log is down.
func (b *bench) free() int {
	b.t.Helper()
	if b.down {
		return 0
	}
	used, e := b.room().Used()
	says(b.t, e, api.OK)
	return b.room().Pages() - used
}

// leave: somebody else takes pages, or gives them back, so that so many are free, if there are so many.
func (b *bench) leave(free int) {
	b.t.Helper()
	for now := b.free(); now > free; now-- {
		page, e := b.room().Alloc()
		says(b.t, e, api.OK)
		b.want.others = append(b.want.others, page)
	}
	for now := b.free(); now < free && len(b.want.others) > 0; now++ {
		last := len(b.want.others) - 1
		says(b.t, b.room().Free(b.want.others[last]), api.OK)
		b.want.others = b.want.others[:last]
	}
	b.check()
}

// mark: what the room tells now, kept for back.
func (b *bench) mark() int {
	mark := b.room().Mark()
	b.marks = append(b.marks, marked{mark, b.want.copied()})
	return mark
}

// back: to a mark that mark told.
func (b *bench) back(mark int) {
	b.t.Helper()
	if mark < b.change().Mark() {
		for len(b.marks) > 1 && b.marks[len(b.marks)-1].mark > mark {
			b.marks = b.marks[:len(b.marks)-1]
		}
		b.want = b.marks[len(b.marks)-1].was.copied()
	}
	b.room().Back(mark)
	b.check()
}

// commit: the change; what its room has is what the log has then. The other room's turn comes.
func (b *bench) commit() {
	b.t.Helper()
	says(b.t, b.change().Commit(), api.OK)
	b.firm = b.want
	b.fresh()
	b.at, b.checks = 1-b.at, -1
	b.check()
}

// forget: the change is given up; its room is as the log is. The other room's turn comes.
func (b *bench) forget() {
	b.t.Helper()
	b.change().Drop()
	b.fresh()
	b.at, b.checks = 1-b.at, -1
	b.check()
}

// bringDown: brings the log down, by a step of its own.
func (b *bench) bringDown() {
	b.t.Helper()
	b.disk.Fuel(0)
	says(b.t, b.log.Commit([]api.Put{{At: 0, Text: "down"}}), api.ErrDown)
	b.down = true
	b.check()
}

// reopen: the log is opened again behind a fall.
func (b *bench) reopen() {
	b.t.Helper()
	b.disk.Fall(nil)
	b.open()
	b.check()
}
