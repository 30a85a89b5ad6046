package upload_test

import (
	"fmt"
	"maps"
	"math"
	"math/rand"
	"slices"
	"strings"
	"testing"
	"time"

	"cooperage/api"
	"cooperage/blob"
	"cooperage/bucket"
	"cooperage/chunks"
	"cooperage/name"
	"cooperage/recipe"
	"cooperage/room"
	"cooperage/sector"
	"cooperage/tree"
	"cooperage/tx"
	"cooperage/upload"
	"cooperage/version"
	"cooperage/wal"
)

// one: of a list, drawn.
func one[V any](source *rand.Rand, list []V) V {
	return list[source.Intn(len(list))]
}

// drawnPlace: mostly names of few buckets and items; now and then one that is none, or of a bucket that may not be there.
func drawnPlace(source *rand.Rand) (string, string) {
	s, item := one(source, someBuckets()), one(source, someItems()[:3])
	switch source.Intn(20) {
	case 0:
		s = one(source, noBuckets())
	case 1:
		item = one(source, noItems())
	}
	return s, item
}

// drawnBody: mostly of blocks that come again and again.
func drawnBody(source *rand.Rand) string {
	if source.Intn(4) == 0 {
		return one(source, texts())
	}
	var text strings.Builder
	for range source.Intn(5) {
		text.WriteString(drawnText(source.Intn(5), 50+source.Intn(2)*90))
	}
	return text.String()
}

// drawnUpload: mostly of one that is there; now and then of another place, or another number.
func (b *bench) drawnUpload(source *rand.Rand) (string, string, uint64) {
	s, item := drawnPlace(source)
	ids := b.want.begunNumbers()
	if len(ids) == 0 || source.Intn(9) == 0 {
		return s, item, one(source, append(numbers(), b.want.last))
	}
	id := one(source, ids)
	if source.Intn(9) > 0 {
		s, item = b.want.uploads[id].bucket, b.want.uploads[id].u.Key
	}
	return s, item, id
}

// drawnPart: mostly a number that a part may have, of few; now and then one that none has.
func drawnPart(source *rand.Rand) int {
	if source.Intn(9) == 0 {
		return one(source, noParts())
	}
	return one(source, []int{1, 2, 3, 9, 16})
}

// drawnList: mostly parts of an upload, rising; now and then another one.
func (b *bench) drawnList(source *rand.Rand, id uint64) []int {
	var list []int
	for _, n := range slices.Sorted(maps.Keys(b.want.uploads[id].parts)) {
		if source.Intn(3) > 0 {
			list = append(list, n)
		}
	}
	switch at := source.Intn(len(list) + 1); source.Intn(12) {
	case 0:
		list = slices.Insert(list, at, drawnPart(source))
	case 1:
		list = append(list, list[:at]...)
	case 2:
		slices.Reverse(list)
	}
	return list
}

// drawnVersion: mostly of one that is kept; now and then another one.
func (b *bench) drawnVersion(source *rand.Rand) (string, string, uint64) {
	s, item := drawnPlace(source)
	ids := b.want.numbers()
	if len(ids) == 0 || source.Intn(9) == 0 {
		return s, item, one(source, append(numbers(), b.want.begunNumbers()...))
	}
	id := one(source, ids)
	if source.Intn(9) > 0 {
		s, item = b.want.versions[id].v.Bucket, b.want.versions[id].v.Key
	}
	return s, item, id
}

// act: a drawn call.
func (b *bench) act(source *rand.Rand) {
	b.t.Helper()
	s, item := drawnPlace(source)
	switch source.Intn(32) {
	case 0, 1, 2, 3:
		b.start(s, item, one(source, times()))
	case 4, 5, 6, 7, 8, 9, 10:
		s, item, id := b.drawnUpload(source)
		b.part(s, item, id, drawnPart(source), drawnBody(source))
	case 11, 12, 13:
		s, item, id := b.drawnUpload(source)
		b.finish(s, item, id, b.drawnList(source, id), one(source, times()))
	case 14, 15:
		s, item, id := b.drawnUpload(source)
		b.abort(s, item, id)
	case 16:
		s, item, id := b.drawnUpload(source)
		b.partRefs(s, item, id, drawnPart(source), one(source, noRecipes()))
	case 17:
		s, item, _ := b.drawnUpload(source)
		b.look(s, item)
	case 18, 19:
		b.put(s, item, drawnBody(source), one(source, times()))
	case 20:
		b.delete(s, item, one(source, times()))
	case 21:
		b.remove(b.drawnVersion(source))
	case 22:
		b.number()
	default:
		if !b.down {
			b.actBeside(source)
		}
	}
}

// actBeside: something drawn that is done beside the calls, of a log that is up.
func (b *bench) actBeside(source *rand.Rand) {
	b.t.Helper()
	switch source.Intn(16) {
	case 0, 1, 2, 3:
		b.set(one(source, someBuckets()), source.Intn(3))
	case 4:
		b.drop(one(source, someBuckets()))
	case 5, 6:
		b.merge(one(source, []int{1, 7, math.MaxInt}))
	case 7, 8:
		b.reclaim(one(source, []int{1, 7, math.MaxInt}))
	case 9:
		b.leave(source.Intn(b.room().Pages() + 1))
	case 10, 11:
		b.leave(roomy(nil) + 20)
	case 12:
		b.mark()
	case 13:
		b.back(one(source, append(b.marks, marked{math.MaxInt, nil})).mark)
	case 14:
		b.commit()
	case 15:
		b.forget()
	}
}

// P17.1, P17.2: drawn calls, of two rooms by turns, of few pages and of many, merged at any time, to the log's going down, behind it, and when it is opened again; all versions, uploads, parts and counts behind each of them. At the end all are given up.
func TestDrawnActs(t *testing.T) {
	for _, pages := range []int{0, 1, 3, 8, 20, 50, 150} {
		for seed := range 3 {
			source := rand.New(rand.NewSource(int64(seed)))
			b := laid(t, pages)
			for range 2 {
				for range 200 {
					b.lazy = source.Intn(2) > 0
					b.act(source)
				}
				b.lazy = false
				b.check()
				b.bringDown()
				for range 20 {
					b.act(source)
				}
				b.reopen()
			}
			b.emptied()
		}
	}
}

// P17.1, P17.2: drawn calls of many items with many uploads, in maps of several levels; then all come to rest, and then all are given up.
func TestDrawnManyUploads(t *testing.T) {
	source := rand.New(rand.NewSource(3))
	b := ready(t, 3500)
	b.lazy = true
	for k := range 2500 {
		if k%40 == 0 {
			b.commit()
		}
		s, item := one(source, someBuckets()[:3]), fmt.Sprintf("%02d", source.Intn(30))+strings.Repeat("x", source.Intn(2)*38)
		switch source.Intn(12) {
		case 0, 1:
			b.start(s, item, uint64(source.Intn(99)))
		case 2, 3, 4, 5, 6:
			s, item, id := b.drawnUpload(source)
			b.part(s, item, id, 1+source.Intn(16), drawnBody(source))
		case 7:
			s, item, id := b.drawnUpload(source)
			b.finish(s, item, id, b.drawnList(source, id), 9)
		case 8:
			if source.Intn(3) == 0 {
				b.abort(b.drawnUpload(source))
			}
		case 9:
			if source.Intn(4) == 0 {
				b.remove(b.drawnVersion(source))
			}
		case 10:
			b.merge(source.Intn(100))
			b.reclaim(source.Intn(20))
		case 11:
			b.set(s, source.Intn(3))
		}
	}
	parts := 0
	for _, x := range b.want.uploads {
		parts += len(x.parts)
	}
	if len(b.want.uploads) < 100 || parts < 300 || len(b.want.versions) < 30 {
		t.Fatalf("%d uploads, %d parts, %d versions", len(b.want.uploads), parts, len(b.want.versions))
	}
	b.commit()
	b.reopen()
	b.rest()
	b.lazy = false
	b.check()
	b.emptied()
}

// justEnough: that a call that puts such refs is done with as many free pages as it needs; that with one less, and with none, if it needs any, it is refused, and nothing has changed. It tells how many it needs.
func (b *bench) justEnough(refs []api.Ref, do func() api.Errno, ask call) int {
	b.t.Helper()
	b.leave(roomy(refs))
	needs := b.needs(refs, ask)
	if needs > 0 {
		b.leave(needs - 1)
		says(b.t, do(), api.ErrFull)
		b.leave(0)
		says(b.t, do(), api.ErrFull)
	}
	b.leave(needs)
	says(b.t, do(), api.OK)
	return needs
}

// built: a text's recipe, built in a room with room for it.
func (b *bench) built(text string) []api.Ref {
	b.t.Helper()
	b.leave(200)
	refs, e := recipe.Build(b.store(), text)
	says(b.t, e, api.OK)
	b.want.hand = refs
	return refs
}

// P17.1, ErrFull: a Start in a room with just as many free pages as it needs is done; with one less, and with none, if it needs any, it is refused, and no number is told.
func TestLittleRoomForStart(t *testing.T) {
	b, needed := ready(t, 300), map[int]int{}
	b.lazy = true
	for k := range 200 {
		s, item := someBuckets()[k%3], fmt.Sprintf("%02d", k*7%50)
		needed[b.justEnough(nil,
			func() api.Errno { _, e := b.start(s, item, 1); return e },
			func() (api.Version, api.Errno) { return numbered(upload.Start(b.room(), s, item, 1)) })]++
	}
	if needed[0] < 100 || needed[1] < 5 || needed[0]+needed[1]+needed[2] < 200 {
		t.Fatalf("how many pages were needed: %v", needed)
	}
	b.emptied()
}

// P17.1, ErrFull: a Put in a room with just as many free pages as it needs is done; with one less, and with none, it is refused. A new part needs the pages of its recipe, and now and then one or two of the map; one that is put again those fewer that the former one gives back, and none of the map.
func TestLittleRoomForPut(t *testing.T) {
	b, fresh, again := ready(t, 900), map[int]int{}, map[int]int{}
	b.lazy = true
	var ids []uint64
	for range 5 {
		b.leave(200)
		ids = append(ids, b.started("abc", "k"))
	}
	for k := range 120 {
		id, n := ids[k%5], 1+k/5%16
		refs := b.built(drawnText(k%7, k*3%8*300))
		former, there := b.want.uploads[id].parts[n]
		needs := b.justEnough(refs,
			func() api.Errno { return b.partRefs("abc", "k", id, n, refs) },
			func() (api.Version, api.Errno) {
				return api.Version{}, upload.Put(b.room(), b.store(), "abc", "k", id, n, refs)
			})
		if there {
			again[needs-max(0, pagesOf(refs)-pagesOf(former))]++
		} else {
			fresh[needs-pagesOf(refs)]++
		}
		if k%30 == 0 {
			b.rest()
		}
	}
	if fresh[0] < 40 || fresh[1] < 3 || fresh[0]+fresh[1]+fresh[2] != 80 || again[0] != 40 {
		t.Fatalf("pages that were needed beside the recipes': %v; again: %v", fresh, again)
	}
	b.emptied()
}

// P17.1, ErrFull: a Finish in a room with just as many free pages as it needs is done; with one less, and with none, if it needs any, it is refused. Its recipe needs no more than the parts leave, and the map needs one or two now and then.
func TestLittleRoomForFinish(t *testing.T) {
	for state, s := range someBuckets()[:3] {
		b, needed, source := ready(t, 1500), map[int]int{}, rand.New(rand.NewSource(8))
		b.lazy = true
		for k := range 150 {
			b.leave(300)
			item := fmt.Sprintf("%02d", k*7%40)
			id := b.started(s, item)
			var list []int
			for range 1 + k%3 {
				list = append(list, 1+source.Intn(16))
			}
			slices.Sort(list)
			list = slices.Compact(list)
			for _, n := range list {
				says(t, b.part(s, item, id, n, drawnText(k%9, source.Intn(300))), api.OK)
			}
			if k%4 == 0 && len(list) > 1 {
				list = list[1:]
			}
			if k%7 == 0 {
				b.started(s, item)
			}
			needed[b.justEnough(nil,
				func() api.Errno { _, e := b.finish(s, item, id, list, 1); return e },
				func() (api.Version, api.Errno) {
					return upload.Finish(b.room(), b.store(), s, item, id, list, 1)
				})]++
			if k%30 == 0 {
				b.rest()
			}
		}
		if needed[0] < 100 || state == 1 && needed[0] == 150 || needed[0]+needed[1]+needed[2] < 150 {
			t.Fatalf("%s: how many pages were needed: %v", s, needed)
		}
		b.emptied()
	}
}

// P17.3: in a room without a free page Abort is done, of any upload, however many chunks are counted less; somebody else takes each page that is given back. Chunks are counted right all the while.
func TestFullRoom(t *testing.T) {
	for _, merged := range []bool{false, true} {
		b, source := ready(t, 2500), rand.New(rand.NewSource(6))
		b.lazy = true
		for k := range 60 {
			b.commit()
			s, item := someBuckets()[k%3], fmt.Sprintf("%02d", k%20)
			id := b.started(s, item)
			for range k % 7 {
				says(t, b.part(s, item, id, 1+source.Intn(16), drawnText(source.Intn(15), source.Intn(700))), api.OK)
			}
			if k%6 == 0 {
				says(t, b.put(s, item, drawnText(k%9, 500), 1), api.OK)
			}
		}
		if merged {
			b.merge(math.MaxInt)
		}
		b.leave(0)
		list := b.want.begunNumbers()
		source.Shuffle(len(list), func(i, j int) { list[i], list[j] = list[j], list[i] })
		for k, id := range list {
			b.abortBegun(id)
			b.leave(0)
			if k%10 == 0 {
				checkChunks(t, b.room(), b.want)
				checkPages(t, b.room(), b.want)
			}
		}
		b.emptied()
	}
}

// P17.3: in a room without a free page Abort is done also where the chunks' log has just no room for one entry more, and its map has to have more pages for one than the upload gives back; so are a Put of a part again, and a Finish that leaves one out.
func TestFullRoomAndFullLog(t *testing.T) {
	b := ready(t, 120)
	b.lazy = true
	id := b.started("abc", "k")
	b.parts("abc", "k", id, drawnText(1, 200), drawnText(2, 200))
	b.merge(math.MaxInt)
	b.leave(0)
	first := b.want.uploads[id].parts[1][:1]
	for full, by := 0, 1; full < 9; {
		e := b.store().Add(first[0].ID, by)
		if e == api.OK {
			by = -by
			b.want.hand = first[:(1-by)/2]
			continue
		}
		says(t, e, api.ErrFull)
		full++
		for _, call := range []func() api.Errno{
			func() api.Errno { return b.abort("abc", "k", id) },
			func() api.Errno { return b.partRefs("abc", "k", id, 1, nil) },
			func() api.Errno { _, e := b.finish("abc", "k", id, []int{2}, 5); return e },
		} {
			was, mark, hand := b.want.copied(), b.room().Mark(), b.want.hand
			e := call()
			b.want.hand = hand
			if e != api.OK {
				t.Fatalf("refused by %d", e)
			}
			checkChunks(t, b.room(), b.want)
			checkPages(t, b.room(), b.want)
			b.room().Back(mark)
			b.want = was
		}
		b.leave(b.needs(nil, func() (api.Version, api.Errno) { return api.Version{}, b.store().Add(first[0].ID, by) }))
	}
}

// P17.1: in a room without a free page a Put of a part again that gives up as many pages as it takes is done, and a Finish; the room stays full. One that takes more is refused.
func TestReplaceInFullRoom(t *testing.T) {
	b := ready(t, 300)
	id := b.started("abb", "k")
	b.parts("abb", "k", id, texts()[5], "two")
	refs := b.built(texts()[6])
	b.leave(0)
	says(t, b.partRefs("abb", "k", id, 1, refs), api.OK)
	refs = b.built(texts()[8])
	b.leave(0)
	says(t, b.partRefs("abb", "k", id, 1, refs), api.ErrFull)
	b.want.hand = nil
	says(t, recipe.Drop(b.store(), refs), api.OK)
	v, e := b.finish("abb", "k", id, []int{1, 2}, 4)
	says(t, e, api.OK)
	tells(t, b.whole(v), e, texts()[6]+"two", api.OK)
	b.emptied()
}

// P17.1: in rooms of few pages: a bucket takes one, and what is left of them is enough for an upload, a part and a version of it, or it isn't.
func TestSmallRooms(t *testing.T) {
	done := map[int]int{}
	for pages := range 24 {
		for state := range 3 {
			b := laid(t, pages)
			b.set("abc", state)
			for k := range 24 {
				b.lazy = k%4 > 0
				item := someItems()[k%3]
				id, e := b.start("abc", item, 1)
				if pages == 0 && e != api.NoBucket || pages > 1 && k == 0 && e != api.OK {
					t.Fatalf("%d pages: %d", pages, e)
				}
				b.part("abc", item, id, 1+k%2, strings.Repeat("x", k%3))
				b.part("abc", item, id, 3, texts()[k%9])
				e = b.partRefs("abc", item, id, 4, nil)
				if pages > 5 && k == 0 && e != api.OK {
					t.Fatalf("%d pages: %d", pages, e)
				}
				list := [][]int{{4}, {1 + k%2, 4}, {1 + k%2, 3}}[k%3]
				if k%5 != 1 {
					if _, e := b.finish("abc", item, id, list, 3); e == api.OK {
						done[pages]++
					}
				}
				if k%5 > 2 {
					b.abort("abc", item, id)
				}
			}
			b.emptied()
		}
	}
	if done[1] > 0 || done[2] > 0 || done[4] == 0 || done[23] <= done[8] {
		t.Fatalf("uploads that were finished, by pages: %v", done)
	}
}

// P17.1, and P5.2 through it: uploads are there, behind Open, as their last Commit left them, or as the one that was broken off would have, whatever the fall keeps.
func TestBrokenCommit(t *testing.T) {
	for _, keep := range []string{"nothing", "all", "some"} {
		for fuel, done := 0, false; !done; fuel++ {
			b := ready(t, 80)
			b.lazy = true
			for k, s := range someBuckets()[:3] {
				b.parts(s, "k", b.started(s, "k"), texts()[k+3], "two")
			}
			b.commit()
			b.parts("abc", "k", 1, "other")
			_, e := b.finish("abcd", "k", 2, []int{2}, 4)
			says(t, e, api.OK)
			b.abortBegun(3)
			b.parts("abcd", "kk", b.started("abcd", "kk"), texts()[6])
			b.disk.Fuel(fuel)
			done = b.change().Commit() == api.OK
			b.disk.Fuel(-1)
			var list []bool
			for k := range b.disk.Loose() {
				list = append(list, keep == "all" || keep == "some" && k%2 == fuel%2)
			}
			b.disk.Fall(list)
			l, e := wal.Open(b.disk, ring)
			says(t, e, api.OK)
			last, e := room.Of(tx.Begin(l)).Root(5)
			says(t, e, api.OK)
			if last == b.want.last {
				b.firm = b.want
			} else if done {
				t.Fatal("what was committed isn't there")
			}
			b.lazy = false
			b.reopen()
		}
	}
}

// broken: rooms of 60 pages with uploads and versions of each kind.
func broken(t *testing.T) *bench {
	t.Helper()
	b := laid(t, 60)
	for k, s := range someBuckets()[:3] {
		b.set(s, k)
		says(t, b.put(s, "k", texts()[k], 3), api.OK)
		b.parts(s, "k", b.started(s, "k"), texts()[k+3], "two")
		says(t, b.part(s, "k", b.started(s, "k"), 16, "x"), api.OK)
		b.started(s, "j")
	}
	b.merge(10)
	b.commit()
	return b
}

// agree: that all calls of the room end, whatever stands in it, and that what is refused has changed nothing, and tells nothing; all is taken back.
func (b *bench) agree() {
	b.t.Helper()
	r, s, was := b.room(), b.store(), b.now()
	see := func(told bool, e api.Errno) {
		b.t.Helper()
		if told && e != api.OK || !slices.Contains([]api.Errno{api.OK, api.ErrLost, api.ErrFull, api.NoBucket, api.NoUpload, api.BadPart}, e) {
			b.t.Fatalf("refused by %d; something is told: %v", e, told)
		}
		if now := b.now(); e != api.OK && (now.mark != was.mark || !slices.Equal(now.homes, was.homes)) {
			b.t.Fatal("what was refused has changed something")
		}
		b.change().Back(was.mark)
	}
	refs := refsOf("two")
	for _, bucket := range someBuckets()[:3] {
		all, e := upload.All(r, bucket)
		see(len(all) > 0, e)
		id, e := upload.Start(r, bucket, "k", 1)
		see(id > 0, e)
		for id := range uint64(13) {
			item := "k"
			if id%4 == 0 {
				item = "j"
			}
			parts, e := upload.Parts(r, bucket, item, id)
			see(len(parts) > 0, e)
			for _, p := range parts {
				refs, e := upload.Refs(r, p)
				see(len(refs) > 0, e)
			}
			see(false, upload.Put(r, s, bucket, item, id, 1, refs))
			see(false, upload.Put(r, s, bucket, item, id, 3, nil))
			for _, list := range [][]int{{1}, {2}, {1, 2}, {16}} {
				v, e := upload.Finish(r, s, bucket, item, id, list, 1)
				see(v != api.Version{}, e)
			}
			see(false, upload.Abort(r, s, bucket, item, id))
		}
	}
}

// P0, P17.1: rooms of which a page is free, or holds noughts or something else, or what another one does, or whose numbers of the maps are others: each call ends, and what is refused changes nothing.
func TestBrokenRooms(t *testing.T) {
	b := broken(t)
	b.lazy = true
	r := b.room()
	for page := range 60 {
		mark := r.Mark()
		held, e := r.Read(page)
		if e != api.OK {
			continue
		}
		says(t, r.Free(page), api.OK)
		b.agree()
		r.Back(mark)
		for _, s := range []string{"", "n", strings.Repeat("l", 512), held[:40] + "x" + held[41:], held[:5] + "x" + held[6:]} {
			says(t, r.Write(page, s), api.OK)
			b.agree()
			r.Back(mark)
		}
		for other := range 60 {
			if s, e := r.Read(other); e == api.OK && (page+other)%5 == 0 {
				says(t, r.Write(page, s), api.OK)
				b.agree()
				r.Back(mark)
			}
		}
	}
	for _, place := range []int{0, 1, 2, 4, 5} {
		for _, n := range []uint64{0, 1, 2, 7, 51, 1 << 16, 1 << 32, math.MaxUint64} {
			mark := r.Mark()
			says(t, r.SetRoot(place, n), api.OK)
			b.agree()
			r.Back(mark)
		}
	}
	b.lazy = false
	b.check()
}

// P0, P17.1: where a part's recipe should begin there is none, or another one, or another page: it is lost, by Refs and by what would give it up or finish it, and nothing has changed; All and Parts tell of it still, and other parts are put as ever.
func TestLostRecipes(t *testing.T) {
	b := ready(t, 60)
	id := b.started("abc", "k")
	b.parts("abc", "k", id, texts()[5], "two")
	r, s := b.room(), b.store()
	parts, e := upload.Parts(r, "abc", "k", id)
	says(t, e, api.OK)
	p := parts[0]
	right, e := blob.Get(r, p.Page)
	says(t, e, api.OK)
	texts := []string{"", "x", right[1:], right + "x", right[:len(right)-34], right + right[:34], right[:33] + "\x00" + right[34:], right[:33] + "\x81" + right[34:], strings.Repeat("n", 33) + "\x05", strings.Repeat("\x01", 34*4)}
	lost := func() {
		t.Helper()
		was := b.now()
		refs, e := upload.Refs(r, p)
		lists(t, refs, e, nil, api.ErrLost)
		got, e := upload.Parts(r, "abc", "k", id)
		lists(t, got, e, parts, api.OK)
		says(t, upload.Put(r, s, "abc", "k", id, 1, nil), api.ErrLost)
		b.stays(was)
		for _, list := range [][]int{{1}, {2}, {1, 2}} {
			v, e := upload.Finish(r, s, "abc", "k", id, list, 1)
			tells(t, v, e, api.Version{}, api.ErrLost)
			b.stays(was)
		}
		says(t, upload.Abort(r, s, "abc", "k", id), api.ErrLost)
		b.stays(was)
		says(t, upload.Put(r, s, "abc", "k", id, 2, nil), api.OK)
		says(t, upload.Put(r, s, "abc", "k", id, 3, nil), api.OK)
	}
	mark := r.Mark()
	for _, text := range texts {
		says(t, blob.Drop(r, p.Page), api.OK)
		page, e := blob.Put(r, text)
		tells(t, page, e, p.Page, api.OK)
		lost()
		r.Back(mark)
	}
	says(t, blob.Drop(r, p.Page), api.OK)
	lost()
	r.Back(mark)
	says(t, r.Write(p.Page, right), api.OK)
	lost()
	r.Back(mark)
	b.check()
}

// P0, P17.1: what stands at a part's or an upload's key is another one: drawn, too short, too long, with another byte at each place. It is lost by each call that meets it, and nothing has changed, or the upload has another Born, the part another Size or Page; of other uploads nothing has changed.
func TestDrawnValues(t *testing.T) {
	b, source := broken(t), rand.New(rand.NewSource(4))
	r, s, m, lost, found := b.room(), b.store(), tree.At(b.room(), 4), 0, 0
	try := func(key, val string, isPart bool) {
		t.Helper()
		mark := r.Mark()
		says(t, m.Put(key, val), api.OK)
		was := b.now()
		all, allErr := upload.All(r, "abcd")
		parts, partsErr := upload.Parts(r, "abcd", "k", 6)
		if isPart {
			lists(t, all, allErr, b.want.begunIn("abcd"), api.OK)
		}
		if partsErr == api.OK {
			found++
			for _, p := range parts {
				if p.Size < 0 || p.Size > 4000*128 || p.Page < 0 || p.Page >= 65536 || len(parts) != 2 {
					t.Fatalf("%q is %s", val, shown(p))
				}
				refs, e := upload.Refs(r, p)
				if e == api.OK {
					tells(t, sizeOf(refs), e, p.Size, api.OK)
					continue
				}
				lists(t, refs, e, nil, api.ErrLost)
				says(t, upload.Abort(r, s, "abcd", "k", 6), api.ErrLost)
				says(t, upload.Put(r, s, "abcd", "k", 6, p.N, nil), api.ErrLost)
			}
		} else {
			lost++
			lists(t, parts, partsErr, nil, api.ErrLost)
			if !isPart {
				lists(t, all, allErr, nil, api.ErrLost)
			}
			says(t, upload.Abort(r, s, "abcd", "k", 6), api.ErrLost)
			says(t, upload.Put(r, s, "abcd", "k", 6, 2, nil), api.ErrLost)
			v, e := upload.Finish(r, s, "abcd", "k", 6, []int{1}, 1)
			tells(t, v, e, api.Version{}, api.ErrLost)
			b.stays(was)
		}
		checkUploads(t, r, b.want, "abb", "k")
		checkParts(t, r, b.want, "abcd", "k", 7)
		r.Back(mark)
	}
	for _, key := range []string{name.PartKey(6, 2), name.UploadKey("abcd", "k", 6)} {
		held, there, e := m.Get(key)
		tells(t, there, e, true, api.OK)
		isPart := key[0] == 'p'
		for at := range held {
			try(key, held[:at], isPart)
			for _, c := range []byte{0, 1, 2, 3, 4, 5, 128, 255} {
				try(key, held[:at]+string([]byte{c})+held[at+1:], isPart)
			}
		}
		try(key, held+"\x00", isPart)
		try(key, held+"x", isPart)
		for range 60 {
			val := make([]byte, source.Intn(57))
			source.Read(val)
			try(key, string(val), isPart)
		}
	}
	if lost < 100 || found < 70 {
		t.Fatalf("%d lost, %d found", lost, found)
	}
	b.check()
}

// P17.1: where somebody else has put what is no upload's key among a bucket's, or no part's among an upload's, it is lost by what looks at all of them; keys just ahead of all, and just behind them, don't matter.
func TestForeignKeys(t *testing.T) {
	b := broken(t)
	r, s, m := b.room(), b.store(), tree.At(b.room(), 4)
	for _, val := range []string{"12345678", "\x00\x00\x00\x03\x00\x00\x00\x01", ""} {
		for _, behind := range []string{"", "k", "k\x00", "k\x001234567", "k\x00123456789", "\x0012345678", long + "k\x0012345678"} {
			mark := b.mark()
			says(t, m.Put("uabcd\x00"+behind, val), api.OK)
			all, e := upload.All(r, "abcd")
			lists(t, all, e, nil, api.ErrLost)
			checkUploads(t, r, b.want, "abcd", "k")
			checkBucket(t, r, b.want, "abc")
			b.back(mark)
		}
		for _, behind := range []string{"", "\x00", "\x11", "\xff", "\x01\x00", "\x01\x01", "\x03\xff"} {
			mark := b.mark()
			says(t, m.Put("p\x00\x00\x00\x00\x00\x00\x00\x06"+behind, val), api.OK)
			was := b.now()
			parts, e := upload.Parts(r, "abcd", "k", 6)
			lists(t, parts, e, nil, api.ErrLost)
			v, e := upload.Finish(r, s, "abcd", "k", 6, []int{1}, 1)
			tells(t, v, e, api.Version{}, api.ErrLost)
			says(t, upload.Abort(r, s, "abcd", "k", 6), api.ErrLost)
			b.stays(was)
			checkBucket(t, r, b.want, "abcd")
			checkParts(t, r, b.want, "abcd", "k", 7)
			checkUploads(t, r, b.want, "abb", "k")
			b.back(mark)
		}
	}
	for _, key := range []string{"uabcd", "uabcd\x01", "uabce\x00k\x0012345678", "Uabcd\x00k\x0012345678", "p\x00\x00\x00\x00\x00\x00\x00\x05\xff\xff", "p\x00\x00\x00\x00\x00\x00\x00\x07", "p\x00\x00\x00\x00\x00\x00\x00"} {
		mark := b.mark()
		says(t, m.Put(key, "12345678"), api.OK)
		checkBucket(t, r, b.want, "abcd")
		checkParts(t, r, b.want, "abcd", "k", 6)
		b.back(mark)
	}
}

// greatRoom: one of as many pages as a disk may have.
func greatRoom(t *testing.T) *room.Room {
	t.Helper()
	d, e := sector.New(api.MaxSectors)
	says(t, e, api.OK)
	l, e := wal.Open(d, 4)
	says(t, e, api.OK)
	return room.Of(tx.Begin(l))
}

// P0: in a room as great as a disk may be, with many uploads, with many parts, and with parts of as many refs as there can be, all ends soon, whatever a name's or a list's length, and however many refs there are.
func TestEndsSoon(t *testing.T) {
	start, r := time.Now(), greatRoom(t)
	s := chunks.At(r)
	for k, state := range []int{0, 1, 2} {
		says(t, bucket.Restore(r, api.Bucket{Name: someBuckets()[k], State: state}), api.OK)
	}
	for k := range 5000 {
		id, e := upload.Start(r, "abcd", fmt.Sprint(k%700), 1)
		says(t, e, api.OK)
		for n := 1; n < 4; n++ {
			says(t, upload.Put(r, s, "abcd", fmt.Sprint(k%700), id, n, nil), api.OK)
		}
	}
	for range 20 {
		all, e := upload.All(r, "abcd")
		tells(t, len(all), e, 5000, api.OK)
	}
	for k := range 3000 {
		item, id := fmt.Sprint(k%700), uint64(k+1)
		parts, e := upload.Parts(r, "abcd", item, id)
		tells(t, len(parts), e, 3, api.OK)
		if k%2 == 0 {
			says(t, upload.Abort(r, s, "abcd", item, id), api.OK)
			continue
		}
		_, e = upload.Finish(r, s, "abcd", item, id, []int{1, 3}, 1)
		says(t, e, api.OK)
	}
	id, e := upload.Start(r, "abcd", "k", 1)
	says(t, e, api.OK)
	_, _, e = s.Put("x")
	says(t, e, api.OK)
	for n := range 16 {
		says(t, upload.Put(r, s, "abcd", "k", id, n+1, slices.Repeat([]api.Ref{refOf("x")}, 3855)), api.OK)
	}
	_, e = upload.Finish(r, s, "abcd", "k", id, []int{1, 2, 3, 4, 5, 6, 7, 8, 9, 10, 11, 12, 13, 14, 15, 16}, 1)
	says(t, e, api.ErrBig)
	says(t, upload.Abort(r, s, "abcd", "k", id), api.OK)
	huge := strings.Repeat("a", 1<<28)
	says(t, upload.Abort(r, s, huge, huge, 1), api.BadName)
	says(t, upload.Put(r, s, "abcd", huge, 1, 1, nil), api.BadName)
	says(t, upload.Put(r, s, "abcd", "699", 4200, 1, make([]api.Ref, 1<<24)), api.ErrArg)
	_, e = upload.Finish(r, s, "abcd", "699", 4200, make([]int, 1<<24), 1)
	says(t, e, api.BadPart)
	_, e = version.Find(r, "abcd", "k", 0)
	says(t, e, api.NoKey)
	if took := time.Since(start); took > time.Minute {
		t.Errorf("%v", took)
	}
}
