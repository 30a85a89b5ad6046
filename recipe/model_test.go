package recipe_test

import (
	"crypto/sha256"
	"fmt"
	"maps"
	"math"
	"slices"
	"strings"
	"testing"

	"cooperage/api"
	"cooperage/chunks"
	"cooperage/cut"
	"cooperage/recipe"
	"cooperage/room"
	"cooperage/sector"
	"cooperage/tree"
	"cooperage/tx"
	"cooperage/wal"
)

// Recipes in the document's words.

// name: of the first chunk with a text: SHA-256, by the language's library, and a byte 0.
func name(text string) string {
	sum := sha256.Sum256([]byte(text))
	return string(sum[:]) + "\x00"
}

func refOf(text string) api.Ref {
	return api.Ref{ID: name(text), Len: len(text)}
}

// refsOf: of each of a text's chunks.
func refsOf(text string) []api.Ref {
	var refs []api.Ref
	for _, one := range cut.Cut(text) {
		refs = append(refs, refOf(one))
	}
	return refs
}

func isRecipe(refs []api.Ref) bool {
	for _, ref := range refs {
		if len(ref.ID) != 33 || ref.Len < 1 || ref.Len > 128 {
			return false
		}
	}
	return len(refs) <= 4000
}

// bytesOf: of each ref the name, and its Len; false of what is no recipe.
func bytesOf(refs []api.Ref) (string, bool) {
	if !isRecipe(refs) {
		return "", false
	}
	var list []string
	for _, ref := range refs {
		list = append(list, ref.ID, string([]byte{byte(ref.Len)}))
	}
	return strings.Join(list, ""), true
}

// readOf: the recipe whose bytes s is, found by writing the one refs that may have them; false, if there is none.
func readOf(s string) ([]api.Ref, bool) {
	var refs []api.Ref
	for k := 33; k < len(s); k += 34 {
		refs = append(refs, api.Ref{ID: s[k-33 : k], Len: int(s[k])})
	}
	if again, ok := bytesOf(refs); !ok || again != s {
		return nil, false
	}
	return refs, true
}

func sizeOf(refs []api.Ref) int {
	size := 0
	for _, ref := range refs {
		size += ref.Len
	}
	if !isRecipe(refs) {
		return 0
	}
	return size
}

// isAsked: whether the byte at a place is one of n bytes from from on. (A difference of two ints is right as a number without a sign.)
func isAsked(at, from, n int) bool {
	return at >= from && n > 0 && uint64(at)-uint64(from) < uint64(n)
}

// part: of a recipe's k-th chunk.
type part struct{ k, from, to int }

// partsOf: found byte by byte.
func partsOf(refs []api.Ref, from, n int) []part {
	var list []part
	at := 0
	for k, ref := range refs {
		for i := range ref.Len {
			switch last := len(list) - 1; {
			case !isAsked(at, from, n):
			case last >= 0 && list[last].k == k:
				list[last].to++
			default:
				list = append(list, part{k, i, i + 1})
			}
			at++
		}
	}
	return list
}

func piecesOf(refs []api.Ref, from, n int) []api.Piece {
	if !isRecipe(refs) {
		return nil
	}
	var list []api.Piece
	for _, p := range partsOf(refs, from, n) {
		list = append(list, api.Piece{ID: refs[p.k].ID, From: p.from, To: p.to})
	}
	return list
}

// The store in the document's words.

// kept: a chunk: its text, and its count.
type kept struct {
	text  string
	count int64
}

// entry: of the log.
type entry struct {
	id string
	by int
}

// held: a room: its chunks by their names, the log, and pages that somebody else has.
type held struct {
	chunks map[string]kept
	log    []entry
	others []int
}

func (h *held) copied() *held {
	return &held{maps.Clone(h.chunks), slices.Clone(h.log), slices.Clone(h.others)}
}

func (h *held) names() []string {
	return slices.Sorted(maps.Keys(h.chunks))
}

func (h *held) all() []api.Chunk {
	var list []api.Chunk
	for _, id := range h.names() {
		list = append(list, api.Chunk{ID: id, Len: len(h.chunks[id].text), Count: h.chunks[id].count})
	}
	return list
}

// pending: what the log's entries come to, by the chunks' names.
func (h *held) pending() map[string]int64 {
	sums := map[string]int64{}
	for _, x := range h.log {
		sums[x.id] += int64(x.by)
	}
	return sums
}

func (h *held) put(text string) {
	if _, there := h.chunks[name(text)]; !there {
		h.chunks[name(text)] = kept{text: text}
	}
}

func (h *held) add(id string, by int) {
	h.log = append(h.log, entry{id, by})
}

func (h *held) apply(id string, by int) {
	c := h.chunks[id]
	c.count += int64(by)
	h.chunks[id] = c
}

// merge: the first entries of the log, and tells how many.
func (h *held) merge(limit int) int {
	n := max(0, min(limit, len(h.log)))
	for _, x := range h.log[:n] {
		h.apply(x.id, x.by)
	}
	h.log = h.log[n:]
	return n
}

// reclaim: the first chunks that may be given up, and tells how many.
func (h *held) reclaim(limit int) int {
	n, pending := 0, h.pending()
	for _, id := range h.names() {
		if _, waits := pending[id]; n < limit && h.chunks[id].count <= 0 && !waits {
			delete(h.chunks, id)
			n++
		}
	}
	return n
}

// textOf: n bytes from a place on; or the first error there is, of a log that is up.
func (h *held) textOf(refs []api.Ref, from, n int) (string, api.Errno) {
	if !isRecipe(refs) {
		return "", api.ErrArg
	}
	text := ""
	for _, p := range partsOf(refs, from, n) {
		c, there := h.chunks[refs[p.k].ID]
		if !there || len(c.text) != refs[p.k].Len {
			return "", api.ErrLost
		}
		text += c.text[p.from:p.to]
	}
	return text, api.OK
}

// marked: a mark that was told, and what the room was then.
type marked struct {
	mark int
	was  *held
}

// bench: a store in a room of a change of a log, and the same in the document's words.
type bench struct {
	t      *testing.T
	disk   *sector.Disk
	log    *wal.Log
	change *tx.Tx
	room   *room.Room
	store  *chunks.Store
	homes  int
	down   bool
	lazy   bool // whether checks leave out what takes long
	want   *held
	marks  []marked // of what the change has, the first one of what the log has
}

// ring: sectors of the log's ring.
const ring = 700

// laid: a store in a room of so many pages.
func laid(t *testing.T, pages int) *bench {
	t.Helper()
	homes := 1 + pages + (pages+4095)/4096
	d, e := sector.New(1 + ring + homes)
	says(t, e, api.OK)
	b := &bench{t: t, disk: d, homes: homes, want: &held{chunks: map[string]kept{}}}
	b.marks = []marked{{0, b.want.copied()}}
	b.open()
	if got := b.room.Pages(); got != pages {
		t.Fatalf("%d pages, not %d", got, pages)
	}
	return b
}

// open: the log on the disk, with a change, a room and a store of their own.
func (b *bench) open() {
	b.t.Helper()
	l, e := wal.Open(b.disk, ring)
	says(b.t, e, api.OK)
	b.log, b.change, b.down = l, tx.Begin(l), false
	b.room = room.Of(b.change)
	b.store = chunks.At(b.room)
}

func says(t *testing.T, got, want api.Errno) {
	t.Helper()
	if got != want {
		t.Fatalf("%d, not %d", got, want)
	}
}

// shown: a value in Go's words, or how they begin.
func shown(v any) string {
	words := fmt.Sprintf("%#v", v)
	return words[:min(len(words), 300)]
}

// tells: that a call told such a thing, and such an error or yes and no.
func tells[V, E comparable](t *testing.T, got V, e E, want V, wantErr E) {
	t.Helper()
	if got != want || e != wantErr {
		t.Fatalf("%s, %v, not %s, %v", shown(got), e, shown(want), wantErr)
	}
}

// lists: that a call told such a list, and such an error or yes and no.
func lists[V, E comparable](t *testing.T, got []V, e E, want []V, wantErr E) {
	t.Helper()
	if e != wantErr {
		t.Fatalf("%v, not %v, with %d of them, not %d", e, wantErr, len(got), len(want))
	}
	for k := range min(len(got), len(want)) {
		if got[k] != want[k] {
			t.Fatalf("%s, not %s, is number %d of %d, not %d", shown(got[k]), shown(want[k]), k, len(got), len(want))
		}
	}
	if len(got) != len(want) {
		t.Fatalf("%d of them, not %d", len(got), len(want))
	}
}

// check: that all is as in the document's words.
func (b *bench) check() {
	b.t.Helper()
	want, waits, down := b.want.all(), len(b.want.log), api.OK
	if b.down {
		want, waits, down = nil, 0, api.ErrDown
	}
	all, e := b.store.All()
	lists(b.t, all, e, want, down)
	n, e := b.store.Waits()
	tells(b.t, n, e, waits, down)
	if b.down || b.lazy {
		return
	}
	pending := b.want.pending()
	for id, c := range b.want.chunks {
		count, waits, e := b.store.Count(id)
		tells(b.t, [2]int64{count, waits}, e, [2]int64{c.count, pending[id]}, api.OK)
		text, e := b.store.Get(id)
		tells(b.t, text, e, c.text, api.OK)
	}
	b.checkPages()
}

// checkPages: that those that are taken are the chunks', their map's, the log's map's, and somebody else's.
func (b *bench) checkPages() {
	b.t.Helper()
	sum := len(b.want.others) + len(b.want.chunks)
	for place := range 2 {
		n, e := tree.At(b.room, place).Check()
		says(b.t, e, api.OK)
		sum += n
	}
	used, e := b.room.Used()
	tells(b.t, used, e, sum, api.OK)
}

// state: of the change's homes, and how many puts it has.
type state struct {
	mark  int
	homes []string
}

// now: the state; of a lazy bench, and of one that is down, without the homes.
func (b *bench) now() state {
	b.t.Helper()
	now := state{mark: b.change.Mark()}
	for i := range b.homes {
		if b.down || b.lazy {
			break
		}
		s, e := b.change.Read(i)
		says(b.t, e, api.OK)
		now.homes = append(now.homes, s)
	}
	return now
}

// unchanged: that all is as it was.
func (b *bench) unchanged(was state) {
	b.t.Helper()
	now := b.now()
	if now.mark != was.mark || !slices.Equal(now.homes, was.homes) {
		b.t.Fatal("what only looks, or was refused, has changed something")
	}
	b.check()
}

// inSteps: what the chunks' own calls come to, one behind the other: how many are done ahead of the first error, and that error. All is taken back.
func (b *bench) inSteps(calls []func() api.Errno) (int, api.Errno) {
	mark := b.store.Mark()
	defer b.store.Back(mark)
	for k, call := range calls {
		if e := call(); e != api.OK {
			return k, e
		}
	}
	return len(calls), api.OK
}

// keeping: the chunks' own calls of which Keep of each of some texts is made.
func (b *bench) keeping(texts []string) []func() api.Errno {
	var calls []func() api.Errno
	for _, text := range texts {
		calls = append(calls,
			func() api.Errno { _, _, e := b.store.Put(text); return e },
			func() api.Errno { return b.store.Add(name(text), 1) })
	}
	return calls
}

// adding: the chunks' own calls of which Take, by 1, and Release, by -1, are made.
func (b *bench) adding(refs []api.Ref, by int) []func() api.Errno {
	var calls []func() api.Errno
	for _, ref := range refs {
		calls = append(calls, func() api.Errno { return b.store.Add(ref.ID, by) })
	}
	return calls
}

// ofBuild: the error that Build is to answer, and how many of the chunks' calls are done ahead of it.
func (b *bench) ofBuild(text string) (int, api.Errno) {
	texts := cut.Cut(text)
	switch {
	case b.down:
		return 0, api.ErrDown
	case len(texts) > 4000:
		return 0, api.ErrBig
	}
	return b.inSteps(b.keeping(texts))
}

// ofChange: the error that Take, Release or Drop is to answer, made of such calls of the chunks' own, and how many are done ahead of it.
func (b *bench) ofChange(refs []api.Ref, calls []func() api.Errno) (int, api.Errno) {
	switch {
	case b.down:
		return 0, api.ErrDown
	case !isRecipe(refs):
		return 0, api.ErrArg
	}
	return b.inSteps(calls)
}

func (b *bench) keep(text string) api.Errno {
	b.t.Helper()
	want, wantErr := refOf(text), api.ErrArg
	if b.down || len(text) > 0 && len(text) <= 128 {
		_, wantErr = b.inSteps(b.keeping([]string{text}))
	}
	if wantErr != api.OK {
		want = api.Ref{}
	}
	was := b.now()
	got, e := recipe.Keep(b.store, text)
	tells(b.t, got, e, want, wantErr)
	if e != api.OK {
		b.unchanged(was)
		return e
	}
	b.want.put(text)
	b.want.add(got.ID, 1)
	b.check()
	return e
}

func (b *bench) build(text string) ([]api.Ref, api.Errno) {
	b.t.Helper()
	want := refsOf(text)
	_, wantErr := b.ofBuild(text)
	if wantErr != api.OK {
		want = nil
	}
	was := b.now()
	got, e := recipe.Build(b.store, text)
	lists(b.t, got, e, want, wantErr)
	if e != api.OK {
		b.unchanged(was)
		return nil, e
	}
	for _, one := range cut.Cut(text) {
		b.want.put(one)
		b.want.add(name(one), 1)
	}
	b.check()
	return got, e
}

func (b *bench) take(refs []api.Ref) api.Errno {
	b.t.Helper()
	return b.addEach(refs, 1, recipe.Take)
}

func (b *bench) release(refs []api.Ref) api.Errno {
	b.t.Helper()
	return b.addEach(refs, -1, recipe.Release)
}

// addEach: what Take, by 1, and Release, by -1, do.
func (b *bench) addEach(refs []api.Ref, by int, call func(*chunks.Store, []api.Ref) api.Errno) api.Errno {
	b.t.Helper()
	_, wantErr := b.ofChange(refs, b.adding(refs, by))
	was := b.now()
	e := call(b.store, refs)
	says(b.t, e, wantErr)
	if e != api.OK {
		b.unchanged(was)
		return e
	}
	for _, ref := range refs {
		b.want.add(ref.ID, by)
	}
	b.check()
	return e
}

// drop: tells also for how many chunks there was no room in the log.
func (b *bench) drop(refs []api.Ref) (int, api.Errno) {
	b.t.Helper()
	full := make([]bool, len(refs))
	calls := b.adding(refs, -1)
	for k, add := range calls {
		calls[k] = func() api.Errno {
			e := add()
			full[k] = e == api.ErrFull
			if full[k] {
				e = b.store.Apply(refs[k].ID, -1)
			}
			return e
		}
	}
	_, wantErr := b.ofChange(refs, calls)
	was := b.now()
	e := recipe.Drop(b.store, refs)
	says(b.t, e, wantErr)
	if e == api.ErrFull {
		b.t.Fatal("Drop found no room")
	}
	if e != api.OK {
		b.unchanged(was)
		return 0, e
	}
	applied := 0
	for k, ref := range refs {
		if full[k] {
			b.want.apply(ref.ID, -1)
			applied++
		} else {
			b.want.add(ref.ID, -1)
		}
	}
	b.check()
	return applied, e
}

// look: what Bytes and Pieces tell of n bytes from a place on.
func (b *bench) look(refs []api.Ref, from, n int) {
	b.t.Helper()
	want, wantErr := b.want.textOf(refs, from, n)
	if b.down {
		want, wantErr = "", api.ErrDown
	}
	mark := b.change.Mark()
	text, e := recipe.Bytes(b.store, refs, from, n)
	tells(b.t, text, e, want, wantErr)
	lists(b.t, recipe.Pieces(refs, from, n), true, piecesOf(refs, from, n), true)
	if b.change.Mark() != mark {
		b.t.Fatal("what only looks has put something")
	}
}

// whole: all bytes of a recipe.
func (b *bench) whole(refs []api.Ref) {
	b.t.Helper()
	b.look(refs, 0, sizeOf(refs))
	b.look(refs, math.MinInt/2, math.MaxInt)
}

func (b *bench) merge(limit int) {
	b.t.Helper()
	want, wantErr := 0, api.ErrDown
	if !b.down {
		want, wantErr = b.want.merge(limit), api.OK
	}
	n, e := b.store.Merge(limit)
	tells(b.t, n, e, want, wantErr)
	b.check()
}

func (b *bench) reclaim(limit int) {
	b.t.Helper()
	want, wantErr := 0, api.ErrDown
	if !b.down {
		want, wantErr = b.want.reclaim(limit), api.OK
	}
	n, e := b.store.Reclaim(limit)
	tells(b.t, n, e, want, wantErr)
	b.check()
}

// rest: merges all and reclaims all.
func (b *bench) rest() {
	b.t.Helper()
	b.merge(math.MaxInt)
	b.reclaim(math.MaxInt)
}

// free: how many pages are; 0, if the log is down.
func (b *bench) free() int {
	b.t.Helper()
	if b.down {
		return 0
	}
	used, e := b.room.Used()
	says(b.t, e, api.OK)
	return b.room.Pages() - used
}

// leave: somebody else takes pages, or gives them back, so that so many are free, if there are so many.
func (b *bench) leave(free int) {
	b.t.Helper()
	for now := b.free(); now > free; now-- {
		page, e := b.room.Alloc()
		says(b.t, e, api.OK)
		b.want.others = append(b.want.others, page)
	}
	for now := b.free(); now < free && len(b.want.others) > 0; now++ {
		last := len(b.want.others) - 1
		says(b.t, b.room.Free(b.want.others[last]), api.OK)
		b.want.others = b.want.others[:last]
	}
	b.check()
}

// mark: what the store tells now, kept for back.
func (b *bench) mark() int {
	b.t.Helper()
	b.marks = append(b.marks, marked{b.store.Mark(), b.want.copied()})
	return b.store.Mark()
}

// back: to a mark that mark told.
func (b *bench) back(mark int) {
	b.t.Helper()
	if mark < b.change.Mark() {
		for len(b.marks) > 1 && b.marks[len(b.marks)-1].mark > mark {
			b.marks = b.marks[:len(b.marks)-1]
		}
		b.want = b.marks[len(b.marks)-1].was.copied()
	}
	b.store.Back(mark)
	b.check()
}

// commit: the change; what it has is what the log has then.
func (b *bench) commit() {
	b.t.Helper()
	says(b.t, b.change.Commit(), api.OK)
	b.marks = []marked{{0, b.want.copied()}}
	b.check()
}

// bringDown: brings the log down, by a step of its own.
func (b *bench) bringDown() {
	b.t.Helper()
	b.disk.Fuel(0)
	says(b.t, b.log.Commit([]api.Put{{At: 0, Text: "down"}}), api.ErrDown)
	b.down = true
	b.check()
}

// reopen: the log is opened again behind a fall.
func (b *bench) reopen() {
	b.t.Helper()
	b.disk.Fall(nil)
	b.open()
	b.marks = b.marks[:1]
	b.want = b.marks[0].was.copied()
	b.check()
}
