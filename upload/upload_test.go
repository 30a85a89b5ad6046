package upload_test

import (
	"fmt"
	"math"
	"math/rand"
	"slices"
	"strings"
	"testing"
	"unsafe"

	"cooperage/api"
	"cooperage/blob"
	"cooperage/bucket"
	"cooperage/chunks"
	"cooperage/name"
	"cooperage/recipe"
	"cooperage/room"
	"cooperage/tree"
	"cooperage/tx"
	"cooperage/upload"
	"cooperage/version"
	"cooperage/wal"
)

// long: the longest item's key there is.
var long = strings.Repeat("\xff", 40)

// someBuckets: of which one begins another one, or is just less or just more than one.
func someBuckets() []string {
	return []string{"abc", "abcd", "abb", "000"}
}

// someItems: of which one begins another one, or is just less or just more than one, and the shortest and the longest ones.
func someItems() []string {
	return []string{"k", "kk", "j", "l", "k\x01", "\x01", long, long[:39]}
}

// noBuckets: names that no bucket has: too short, too long, with a - or something else where it can't be.
func noBuckets() []string {
	return []string{"", "a", "ab", "-abc", "abc-", "Abc", "a.c", "abc\x00", "\x00abc", "a\x00c", "abc\xff", strings.Repeat("a", 17), strings.Repeat("a", 1<<17)}
}

// noItems: keys that no item has: too short, too long, with a byte 0.
func noItems() []string {
	return []string{"", "\x00", "k\x00", "\x00k", "k\x00k", long + "\xff", long[1:] + "\x00", strings.Repeat("k", 41), strings.Repeat("k", 256+1), strings.Repeat("k", 1<<17)}
}

// times: for Born.
func times() []uint64 {
	return []uint64{0, 1, 255, 256, 1 << 32, 1 << 63, math.MaxUint64 - 1, math.MaxUint64}
}

// numbers: that uploads may have, and that none has.
func numbers() []uint64 {
	return []uint64{0, 1, 2, 3, 9, 255, 256, 1 << 32, 1 << 62, 1 << 63, math.MaxUint64 - 1, math.MaxUint64}
}

// noParts: numbers that no part has.
func noParts() []int {
	return []int{0, 17, -1, 18, 255, 256, 257, 272, -16, 1<<16 + 1, 1<<32 + 1, math.MinInt, math.MinInt + 1, math.MaxInt}
}

// drawnText: n bytes of any values, the same ones at each run for one seed.
func drawnText(seed, n int) string {
	text := make([]byte, n)
	rand.New(rand.NewSource(int64(seed))).Read(text)
	return string(text)
}

// texts: of no byte, of one chunk, of several, of some that are the same, of more than a page of refs.
func texts() []string {
	block := drawnText(1, 150)
	return []string{"", "x", strings.Repeat("\x00", 16), drawnText(2, 100), block, block + block, drawnText(3, 60) + block, strings.Repeat("\x00", 400), drawnText(4, 1500)}
}

// ghosts: n refs that are right, whose chunks no store has, as far as anybody knows.
func ghosts(n int) []api.Ref {
	var refs []api.Ref
	for k := range n {
		refs = append(refs, api.Ref{ID: fmt.Sprintf("%033d", k), Len: 1 + k%128})
	}
	return refs
}

// noRecipes: refs that are none: one of a name or a Len that isn't right, first, last, or in the midst of others; and too many.
func noRecipes() [][]api.Ref {
	list := [][]api.Ref{ghosts(4001), ghosts(5000)}
	right := api.Ref{ID: strings.Repeat("n", 33), Len: 9}
	wrong := []api.Ref{{}, {Len: 1}, {ID: "x", Len: 1}, {ID: right.ID[1:], Len: 1}, {ID: right.ID + "n", Len: 1}}
	for _, n := range []int{math.MinInt, -1, 0, 129, 256, 257, 1<<32 + 1, math.MaxInt} {
		wrong = append(wrong, api.Ref{ID: right.ID, Len: n})
	}
	for _, ref := range wrong {
		list = append(list, []api.Ref{ref}, []api.Ref{ref, right}, []api.Ref{right, ref}, []api.Ref{right, ref, right})
	}
	return list
}

// ready: rooms of so many pages, with buckets: abc is Off, abcd is Kept, abb is Suspended.
func ready(t *testing.T, pages int) *bench {
	t.Helper()
	b := laid(t, pages)
	for k, s := range []string{"abc", "abcd", "abb"} {
		b.set(s, k)
	}
	b.commit()
	return b
}

// whole: the bytes of an item's version.
func (b *bench) whole(v api.Version) string {
	b.t.Helper()
	refs, e := version.Refs(b.room(), v)
	says(b.t, e, api.OK)
	text, e := recipe.Bytes(b.store(), refs, 0, v.Size+1)
	says(b.t, e, api.OK)
	return text
}

// P17.1: the example: Start, Put 2 b, Put 1 a, Put 1 c, Finish 1 2: cb; and, step by step, what each call tells, in numbers.
func TestStepByStep(t *testing.T) {
	b := laid(t, 60)
	r, s := b.room(), b.store()
	says(t, bucket.Make(r, "abc", 7), api.OK)
	put := func(id uint64, n int, text string) {
		t.Helper()
		refs, e := recipe.Build(s, text)
		lists(t, refs, e, refsOf(text), api.OK)
		says(t, upload.Put(r, s, "abc", "k", id, n, refs), api.OK)
	}
	id, e := upload.Start(r, "abc", "k", 8)
	tells(t, id, e, 1, api.OK)
	all, e := upload.All(r, "abc")
	lists(t, all, e, []api.Upload{{Key: "k", ID: 1, Born: 8}}, api.OK)
	parts, e := upload.Parts(r, "abc", "k", 1)
	lists(t, parts, e, nil, api.OK)
	put(1, 2, "b")
	put(1, 1, "aaa")
	put(1, 1, "c")
	put(1, 16, "sixteen")
	parts, e = upload.Parts(r, "abc", "k", 1)
	if len(parts) != 3 {
		t.Fatalf("%v, %d", parts, e)
	}
	for k, text := range []string{"c", "b", "sixteen"} {
		tells(t, parts[k], e, api.Part{N: []int{1, 2, 16}[k], Size: len(text), Page: parts[k].Page}, api.OK)
		refs, e := upload.Refs(r, parts[k])
		lists(t, refs, e, refsOf(text), api.OK)
	}
	found, e := version.Find(r, "abc", "k", 0)
	tells(t, found, e, api.Version{}, api.NoKey)
	says(t, bucket.Drop(r, "abc"), api.NotEmpty)
	v, e := upload.Finish(r, s, "abc", "k", 1, []int{1, 2}, 9)
	tells(t, v, e, api.Version{Bucket: "abc", Key: "k", ID: 2, Plain: true, Born: 9, Size: 2, Page: v.Page}, api.OK)
	tells(t, b.whole(v), api.OK, "cb", api.OK)
	found, e = version.Find(r, "abc", "k", 0)
	tells(t, found, e, v, api.OK)
	all, e = upload.All(r, "abc")
	lists(t, all, e, nil, api.OK)
	parts, e = upload.Parts(r, "abc", "k", 1)
	lists(t, parts, e, nil, api.NoUpload)
	n, e := s.Merge(99)
	tells(t, n, e, 4+2, api.OK)
	n, e = s.Reclaim(99)
	tells(t, n, e, 2, api.OK)
	id, e = upload.Start(r, "abc", "k", 10)
	tells(t, id, e, 3, api.OK)
	put(3, 5, "five")
	says(t, upload.Abort(r, s, "abc", "k", 3), api.OK)
	says(t, upload.Abort(r, s, "abc", "k", 3), api.NoUpload)
	count, pending, e := s.Count(refOf("five").ID)
	tells(t, count+pending, e, 0, api.OK)
	found, e = version.Find(r, "abc", "k", 0)
	tells(t, found, e, v, api.OK)
}

// P17.1, BadName, NoBucket and NoUpload: of each text that is no name all calls that take one answer it, whichever of the two names it is, in a room with uploads and in one without.
func TestEachName(t *testing.T) {
	b := laid(t, 150)
	refuse := func(s, item string, want api.Errno) {
		t.Helper()
		_, e := b.start(s, item, 1)
		says(t, e, want)
		b.refuseNumbers(s, item, want)
	}
	b.lazy = true
	for range 2 {
		for _, s := range someBuckets() {
			for _, item := range noItems() {
				refuse(s, item, api.BadName)
			}
		}
		for _, s := range noBuckets() {
			for _, item := range []string{"k", "", long, long + "k"} {
				refuse(s, item, api.BadName)
			}
			all, e := upload.All(b.room(), s)
			lists(t, all, e, nil, api.BadName)
		}
		for _, item := range someItems() {
			refuse("none", item, api.NoBucket)
			refuse("abbb", item, api.NoBucket)
		}
		all, e := upload.All(b.room(), "none")
		lists(t, all, e, nil, api.NoBucket)
		b.lazy = false
		for k, s := range someBuckets() {
			b.set(s, k%3)
			b.refuseNumbers(s, "kk", api.NoUpload)
			b.parts(s, "k", b.started(s, "k"), "one", "two")
			b.refuseNumbers(s, "kk", api.NoUpload)
		}
	}
}

// refuseNumbers: that all calls that take a number answer so, of an item without uploads.
func (b *bench) refuseNumbers(s, item string, want api.Errno) {
	b.t.Helper()
	for _, id := range []uint64{0, 1, b.want.last, math.MaxUint64} {
		says(b.t, b.partRefs(s, item, id, 1, nil), want)
		_, e := b.finish(s, item, id, []int{1}, 1)
		says(b.t, e, want)
		says(b.t, b.abort(s, item, id), want)
		parts, e := upload.Parts(b.room(), s, item, id)
		lists(b.t, parts, e, nil, want)
	}
	b.look(s, item)
}

// P17.1: what is done to one upload, by each call, in buckets of each State, changes no other one, though its item's key begins the other's, or is just less or just more, or its bucket's name does or is; nor another one of the same item.
func TestEachUpload(t *testing.T) {
	b := ready(t, 700)
	b.set("000", 2)
	b.lazy = true
	var ids []uint64
	for k, s := range someBuckets() {
		for j, item := range someItems() {
			for range 1 + (k+j)%2 {
				id := b.started(s, item)
				b.parts(s, item, id, texts()[(k+j)%len(texts())], "x", drawnText(j, 200))
				ids = append(ids, id)
			}
			if (k+j)%4 == 0 {
				says(t, b.put(s, item, "a version", 1), api.OK)
			}
		}
	}
	b.lazy = false
	b.check()
	for k, id := range ids {
		x := b.want.uploads[id]
		switch k % 4 {
		case 0:
			says(t, b.part(x.bucket, x.u.Key, id, 2, drawnText(k, 100)), api.OK)
			says(t, b.part(x.bucket, x.u.Key, id, 16, "last"), api.OK)
		case 1:
			b.abortBegun(id)
		case 2:
			_, e := b.finish(x.bucket, x.u.Key, id, []int{1, 3}, 9)
			says(t, e, api.OK)
		}
	}
	b.emptied()
}

// P17.1, numbers: of one item no other one's upload, of the same bucket or of another one, and no version, is found, finished, given up or given parts.
func TestNumbersOfOthers(t *testing.T) {
	b := ready(t, 200)
	places := [][2]string{{"abc", "k"}, {"abc", "kk"}, {"abcd", "k"}, {"abcd", "k"}, {"abb", "k"}}
	for _, at := range places {
		b.parts(at[0], at[1], b.started(at[0], at[1]), "one")
		says(t, b.put(at[0], at[1], "one", 1), api.OK)
	}
	for _, at := range places {
		for id := range b.want.last + 2 {
			want := api.NoUpload
			if x, there := b.want.uploads[id]; there && x.bucket == at[0] && x.u.Key == at[1] {
				want = api.OK
			}
			mark := b.mark()
			says(t, b.part(at[0], at[1], id, 2, "two"), want)
			says(t, b.part(at[0], at[1], id, 1, "other"), want)
			b.back(mark)
			says(t, b.abort(at[0], at[1], id), want)
			b.back(mark)
			_, e := b.finish(at[0], at[1], id, []int{1}, 5)
			says(t, e, want)
			b.back(mark)
		}
		for _, id := range []uint64{0, math.MaxUint64, 1<<32 + 1, 1<<63 + 1} {
			says(t, b.abort(at[0], at[1], id), api.NoUpload)
		}
	}
}

// P17.1, All: by items, then numbers, in whatever order they were begun, with when each was.
func TestOrderOfUploads(t *testing.T) {
	b, source := ready(t, 100), rand.New(rand.NewSource(1))
	for range 40 {
		s, item := someBuckets()[source.Intn(3)], someItems()[source.Intn(8)]
		_, e := b.start(s, item, times()[source.Intn(8)])
		says(t, e, api.OK)
	}
	for len(b.want.uploads) > 0 {
		ids := b.want.begunNumbers()
		b.abortBegun(ids[source.Intn(len(ids))])
	}
	// Numbers of more than one byte stand in order, too.
	for _, last := range []uint64{254, 1<<16 - 2, 1<<32 - 2, 1<<63 - 2, math.MaxUint64 - 3} {
		says(t, b.room().SetRoot(5, last), api.OK)
		b.want.last = last
		for k := range 3 {
			b.parts("abc", "k", b.started("abc", "k"), fmt.Sprint(last, k))
		}
	}
	b.emptied()
}

// P17.1, numbers: they go up by one over all items and buckets, of uploads and of versions, whichever call takes one; none is told twice, though a call was refused, or the version or upload that had it is gone.
func TestNumbersGoUp(t *testing.T) {
	b := ready(t, 300)
	told := uint64(0)
	next := func(id uint64, e api.Errno) {
		t.Helper()
		told++
		tells(t, id, e, told, api.OK)
	}
	latest := func(s, item string) uint64 {
		t.Helper()
		all, e := version.All(b.room(), s, item)
		says(t, e, api.OK)
		return all[0].ID
	}
	for k := range 12 {
		s, item := someBuckets()[k%3], someItems()[k%4]
		id := b.started(s, item)
		next(id, api.OK)
		says(t, b.put(s, item, "one", 1), api.OK)
		next(latest(s, item), api.OK)
		b.removeKept(told)
		next(b.started(s, item), api.OK)
		b.abortBegun(told)
		next(b.started(s, item), api.OK)
		says(t, b.part(s, item, id, 1, "part"), api.OK)
		_, e := b.finish(s, item, id, []int{2}, 1)
		says(t, e, api.BadPart)
		_, e = b.start("none", item, 1)
		says(t, e, api.NoBucket)
		_, e = b.start(s, "", 1)
		says(t, e, api.BadName)
		says(t, b.partRefs(s, item, id, 3, noRecipes()[k]), api.ErrArg)
		v, e := b.finish(s, item, id, []int{1}, 1)
		next(v.ID, e)
		b.number()
		told++
		says(t, b.delete("abcd", item, 1), api.OK)
		next(latest("abcd", item), api.OK)
	}
	b.emptied()
}

// P17.1, Start and Finish: the last number there is, 2^64 - 1, is told, and then none more: ErrFull, and nothing has changed; what needs none is done.
func TestLastNumber(t *testing.T) {
	for _, finish := range []bool{false, true} {
		b := ready(t, 60)
		first := b.started("abc", "k")
		b.parts("abc", "k", first, "one")
		says(t, b.room().SetRoot(5, math.MaxUint64-1), api.OK)
		b.want.last = math.MaxUint64 - 1
		last := uint64(math.MaxUint64)
		if finish {
			v, e := b.finish("abc", "k", first, []int{1}, 1)
			tells(t, v.ID, e, last, api.OK)
			continue
		}
		tells(t, b.started("abc", "k"), api.OK, last, api.OK)
		b.parts("abc", "k", last, "one", "two")
		was := b.now()
		for _, s := range someBuckets()[:3] {
			id, e := upload.Start(b.room(), s, "k", 1)
			tells(t, id, e, 0, api.ErrFull)
			b.unchanged(was)
		}
		for _, id := range []uint64{first, last} {
			v, e := upload.Finish(b.room(), b.store(), "abc", "k", id, []int{1}, 1)
			tells(t, v, e, api.Version{}, api.ErrFull)
			b.unchanged(was)
		}
		b.parts("abc", "k", last, "other")
		b.abortBegun(last)
		b.abortBegun(first)
		b.emptied()
	}
}

// P17.1, Put: each number from 1 to 16, and none else: BadPart, and nothing has changed, whatever the recipe.
func TestEachPart(t *testing.T) {
	b := ready(t, 300)
	id := b.started("abcd", "k")
	for _, n := range []int{16, 1, 8, 15, 2, 9, 3, 14, 4, 13, 5, 12, 6, 11, 7, 10} {
		for _, none := range noParts() {
			for _, refs := range [][]api.Ref{nil, refsOf("one"), noRecipes()[n]} {
				says(t, upload.Put(b.room(), b.store(), "abcd", "k", id, none, refs), api.BadPart)
			}
		}
		says(t, b.part("abcd", "k", id, n, fmt.Sprint("part ", n)), api.OK)
	}
	for _, none := range noParts() {
		says(t, b.part("abcd", "k", id, none, "none"), api.BadPart)
	}
	var list []int
	var want string
	for n := range 16 {
		list = append(list, n+1)
		want += fmt.Sprint("part ", n+1)
	}
	v, e := b.finish("abcd", "k", id, list, 3)
	says(t, e, api.OK)
	tells(t, b.whole(v), e, want, api.OK)
	b.emptied()
}

// P17.1, Put: a part put again, by any recipe behind any other one, the same one, and an empty one: what was there is given up: its chunks are counted once less, its pages are free.
func TestPartAgain(t *testing.T) {
	for k, first := range texts() {
		b := ready(t, 120)
		id := b.started("abb", "k")
		b.lazy = true
		for j, second := range texts() {
			b.lazy = (j+k)%4 > 0
			says(t, b.part("abb", "k", id, 1+k, first), api.OK)
			says(t, b.part("abb", "k", id, 1+k, first), api.OK)
			says(t, b.part("abb", "k", id, 1+k, second), api.OK)
			checkChunks(t, b.room(), b.want)
			checkPages(t, b.room(), b.want)
			parts, e := upload.Parts(b.room(), "abb", "k", id)
			tells(t, len(parts), e, 1, api.OK)
			tells(t, parts[0], e, api.Part{N: 1 + k, Size: len(second), Page: parts[0].Page}, api.OK)
		}
		b.rest()
		b.emptied()
	}
}

// P17.1, P17.2: one text as several parts, of several uploads, and as versions: each counts it.
func TestSameText(t *testing.T) {
	b := ready(t, 150)
	text := texts()[5]
	for _, s := range someBuckets()[:3] {
		for range 2 {
			b.parts(s, "k", b.started(s, "k"), text, text, text)
		}
		says(t, b.put(s, "k", text, 1), api.OK)
	}
	b.rest()
	for k, id := range b.want.begunNumbers() {
		x := b.want.uploads[id]
		switch k % 3 {
		case 0:
			_, e := b.finish(x.bucket, "k", id, []int{1, 3}, 2)
			says(t, e, api.OK)
		case 1:
			b.abortBegun(id)
		case 2:
			b.parts(x.bucket, "k", id, "other", text)
		}
		b.rest()
	}
	b.emptied()
}

// P17.1, ErrArg: of refs that are no recipe, and nothing has changed, for a part that is there, and one that isn't.
func TestNoRecipes(t *testing.T) {
	b := ready(t, 60)
	id := b.started("abcd", "k")
	b.parts("abcd", "k", id, "one")
	for _, refs := range noRecipes() {
		says(t, b.partRefs("abcd", "k", id, 1, refs), api.ErrArg)
		says(t, b.partRefs("abcd", "k", id, 2, refs), api.ErrArg)
	}
}

// eachList: all lists of up to so many numbers out of some.
func eachList(numbers []int, most int) [][]int {
	lists := [][]int{nil}
	for from := 0; most > 0; most-- {
		longest := lists[from:]
		from = len(lists)
		for _, list := range longest {
			for _, n := range numbers {
				lists = append(lists, append(slices.Clone(list), n))
			}
		}
	}
	return lists
}

// P17.1, Finish: of lists of up to four numbers, out of those of parts and of no parts, those that are right are done, and those that are empty, fall, have one twice, or one of which there is no part, are BadPart, and nothing has changed.
func TestEachList(t *testing.T) {
	b := ready(t, 100)
	id := b.started("abcd", "k")
	for _, n := range []int{16, 3, 1} {
		says(t, b.part("abcd", "k", id, n, fmt.Sprint(n)), api.OK)
	}
	done := 0
	for k, list := range eachList([]int{0, 1, 2, 3, 16, 17}, 4) {
		b.lazy = k%50 > 0
		mark := b.mark()
		v, e := b.finish("abcd", "k", id, list, 7)
		if e == api.OK {
			done++
			want := strings.Trim(strings.ReplaceAll(fmt.Sprint(list), " ", ""), "[]")
			tells(t, b.whole(v), e, want, api.OK)
			checkRoom(t, b.room(), b.want)
		} else {
			says(t, e, api.BadPart)
		}
		b.back(mark)
	}
	tells(t, done, api.OK, 7, api.OK)
	b.lazy = false
	for _, list := range [][]int{{math.MinInt}, {-1, 1}, {1, math.MaxInt}, {1, 3, 257}, {1, 3, 16, 16}, {1<<32 + 1}, {3, 1, 16}, {16, 3, 1}, {1, 4}, make([]int, 1<<20)} {
		_, e := b.finish("abcd", "k", id, list, 7)
		says(t, e, api.BadPart)
	}
	empty := b.started("abcd", "k")
	for _, list := range [][]int{nil, {}, {0}, {1}, {1, 3, 16}} {
		_, e := b.finish("abcd", "k", empty, list, 7)
		says(t, e, api.BadPart)
	}
}

// P17.1, Finish: the bytes are those of the parts, one behind the other, in whatever order they were put, and put again; also empty ones.
func TestPartsInAnyOrder(t *testing.T) {
	bodies := []string{texts()[6], "", texts()[4], "x"}
	for order := range 24 {
		b := ready(t, 100)
		b.lazy = true
		id := b.started("abcd", "k")
		left := []int{1, 2, 3, 4}
		for n := order; len(left) > 0; {
			at := n % len(left)
			n /= len(left)
			if order%3 == 0 {
				says(t, b.part("abcd", "k", id, left[at], "again"), api.OK)
			}
			says(t, b.part("abcd", "k", id, left[at], bodies[left[at]-1]), api.OK)
			left = slices.Delete(left, at, at+1)
		}
		v, e := b.finish("abcd", "k", id, []int{1, 2, 3, 4}, 9)
		tells(t, v.Size, e, len(strings.Join(bodies, "")), api.OK)
		tells(t, b.whole(v), e, strings.Join(bodies, ""), api.OK)
		b.emptied()
	}
}

// takeRefs: n refs of one chunk, each counted.
func (b *bench) takeRefs(n int) []api.Ref {
	b.t.Helper()
	_, _, e := b.store().Put("x")
	says(b.t, e, api.OK)
	refs := slices.Repeat([]api.Ref{refOf("x")}, n)
	for from := 0; from < n; from += 4000 {
		says(b.t, recipe.Take(b.store(), refs[from:min(n, from+4000)]), api.OK)
	}
	return refs
}

// P17.1, Finish: the recipes together: as many refs as a blob has room for, 3855, are done; of more, up to MaxRefs, 4000, it is ErrBig, layer 8's; of one more, and of many more, it is ErrBig, Finish's own; and nothing has changed. What is left out doesn't count, and is given up, however many refs that has.
func TestManyRefs(t *testing.T) {
	for _, sizes := range [][]int{{3855}, {2000, 1855}, {3854, 0, 1}, {2000, 1856}, {2000, 1999}, {2000, 2000}, {2000, 2001}, {1000, 3001}, {3855, 3855}, {3855, 145}, {3855, 146}} {
		b := ready(t, 1600)
		b.lazy = true
		id := b.started("abc", "k")
		var list []int
		sum := 0
		for k, n := range sizes {
			says(t, b.partRefs("abc", "k", id, k+1, b.takeRefs(n)), api.OK)
			list = append(list, k+1)
			sum += n
		}
		for n := 10; n < 12; n++ {
			says(t, b.partRefs("abc", "k", id, n, b.takeRefs(3855)), api.OK)
		}
		b.lazy = false
		was := b.now()
		v, e := upload.Finish(b.room(), b.store(), "abc", "k", id, list, 1)
		if sum > 3855 {
			tells(t, v, e, api.Version{}, api.ErrBig)
			b.stays(was)
			v, e = upload.Finish(b.room(), b.store(), "abc", "k", id, append(list, 10), 1)
			tells(t, v, e, api.Version{}, api.ErrBig)
			b.stays(was)
			b.lazy = true
			says(t, b.abort("abc", "k", id), api.OK)
		} else {
			tells(t, v.Size, e, sum, api.OK)
			b.want.finish("abc", "k", id, list, 1)
			b.check()
		}
		b.emptied()
	}
}

// P17.1, Put: the greatest recipes: as many refs as a blob has room for, 3855, are put; of more, up to the 4000 that a recipe may have, it is ErrBig, layer 8's, also where there is no room, for a part that is there and one that isn't; of more it is ErrArg.
func TestGreatParts(t *testing.T) {
	b := ready(t, 600)
	r, s := b.room(), b.store()
	id := b.started("abcd", "k")
	put := func(n int, refs []api.Ref) api.Errno { return upload.Put(r, s, "abcd", "k", id, n, refs) }
	for k, n := range []int{14, 15, 16, 3855} {
		refs := ghosts(n)
		says(t, put(k+1, refs), api.OK)
		parts, e := upload.Parts(r, "abcd", "k", id)
		says(t, e, api.OK)
		tells(t, parts[k], e, api.Part{N: k + 1, Size: sizeOf(refs), Page: parts[k].Page}, api.OK)
		got, e := upload.Refs(r, parts[k])
		lists(t, got, e, refs, api.OK)
		list, e := blob.List(r, parts[k].Page)
		tells(t, len(list), e, pagesOf(refs), api.OK)
	}
	says(t, put(6, nil), api.OK)
	for range 2 {
		was := b.now()
		for n, want := range map[int]api.Errno{3856: api.ErrBig, 3999: api.ErrBig, 4000: api.ErrBig, 4001: api.ErrArg} {
			says(t, put(5, ghosts(n)), want)
			says(t, put(6, ghosts(n)), want)
			b.stays(was)
		}
		for b.free() > 0 {
			_, e := r.Alloc()
			says(t, e, api.OK)
		}
	}
}

// P17.1, Put and Finish: chunks are counted already: they change nothing of that, though there is none of such a name. What has chunks that aren't there isn't given up: it is lost, by each call that would, and nothing has changed.
func TestGhosts(t *testing.T) {
	b := ready(t, 60)
	r, s := b.room(), b.store()
	id := b.started("abcd", "k")
	refs, e := recipe.Build(s, "there")
	says(t, e, api.OK)
	for _, list := range [][]api.Ref{ghosts(1), append(slices.Clone(refs), ghosts(2)...)} {
		mark := r.Mark()
		says(t, upload.Put(r, s, "abcd", "k", id, 1, list), api.OK)
		says(t, upload.Put(r, s, "abcd", "k", id, 2, refs), api.OK)
		was := b.now()
		says(t, upload.Put(r, s, "abcd", "k", id, 1, refs), api.ErrLost)
		b.stays(was)
		says(t, upload.Abort(r, s, "abcd", "k", id), api.ErrLost)
		b.stays(was)
		v, e := upload.Finish(r, s, "abcd", "k", id, []int{2}, 1)
		tells(t, v, e, api.Version{}, api.ErrLost)
		b.stays(was)
		v, e = upload.Finish(r, s, "abcd", "k", id, []int{1, 2}, 1)
		says(t, e, api.OK)
		got, e := version.Refs(r, v)
		lists(t, got, e, slices.Concat(list, refs), api.OK)
		r.Back(mark)
	}
	count, pending, e := s.Count(refs[0].ID)
	tells(t, count+pending, e, 1, api.OK)
}

// P17.1, Finish: as layer 15's Put: over an item that isn't there, over a plain version, a numbered one, a marker, plain or not, in a bucket of each State; by one part, and by all, the others given up.
func TestFinishOverWhatIsThere(t *testing.T) {
	for steps := range 7 * 7 * 3 {
		b := laid(t, 100)
		b.lazy = true
		b.set("abc", 0)
		id := b.started("abc", "k")
		for n := 1; n < 4; n++ {
			says(t, b.part("abc", "k", id, n, texts()[(steps+n)%9]), api.OK)
		}
		for _, step := range []int{steps % 7, steps / 7 % 7} {
			b.set("abc", step%3)
			switch {
			case step < 3:
				says(t, b.put("abc", "k", texts()[step+steps%4], 5), api.OK)
			case step < 6:
				says(t, b.delete("abc", "k", 6), api.OK)
			}
		}
		state := steps / 49
		b.set("abc", state)
		last := b.want.last
		b.lazy = false
		list := [][]int{{2}, {1, 3}, {1, 2, 3}}[steps%3]
		v, e := b.finish("abc", "k", id, list, 8)
		says(t, e, api.OK)
		tells(t, v.ID, e, last+1, api.OK)
		tells(t, v.Plain, e, state != 1, api.OK)
		tells(t, v.Born, e, 8, api.OK)
		found, e := version.Find(b.room(), "abc", "k", 0)
		tells(t, found, e, v, api.OK)
		b.emptied()
	}
}

// P17.1: several uploads of one item at once, begun, put and ended by turns: each has its own parts; what is finished last is the latest version.
func TestUploadsAtOnce(t *testing.T) {
	for state, s := range someBuckets()[:3] {
		b := ready(t, 200)
		var ids []uint64
		for range 4 {
			ids = append(ids, b.started(s, "k"))
		}
		for n := 1; n < 4; n++ {
			for k, id := range ids {
				says(t, b.part(s, "k", id, n, fmt.Sprint(k, n)), api.OK)
			}
		}
		all, e := upload.All(b.room(), s)
		tells(t, len(all), e, 4, api.OK)
		third, e := b.finish(s, "k", ids[2], []int{1, 2, 3}, 5)
		says(t, e, api.OK)
		says(t, b.abort(s, "k", ids[1]), api.OK)
		says(t, b.part(s, "k", ids[0], 2, "new"), api.OK)
		first, e := b.finish(s, "k", ids[0], []int{2, 3}, 6)
		tells(t, b.whole(first), e, "new0 3", api.OK)
		found, e := version.Find(b.room(), s, "k", 0)
		tells(t, found, e, first, api.OK)
		found, e = version.Find(b.room(), s, "k", third.ID)
		if state == 1 {
			tells(t, b.whole(found), e, "2 12 22 3", api.OK)
		} else {
			tells(t, found, e, api.Version{}, api.NoVersion)
		}
		parts, e := upload.Parts(b.room(), s, "k", ids[3])
		tells(t, len(parts), e, 3, api.OK)
		b.emptied()
	}
}

// P17.1: of an upload that was finished or given up each call answers NoUpload, with its number and with the version's, also behind a new upload of the item; its parts are nobody's.
func TestUploadsThatEnded(t *testing.T) {
	for _, finish := range []bool{false, true} {
		b := ready(t, 100)
		id := b.started("abcd", "k")
		b.parts("abcd", "k", id, "one", "two")
		if finish {
			_, e := b.finish("abcd", "k", id, []int{1}, 1)
			says(t, e, api.OK)
		} else {
			says(t, b.abort("abcd", "k", id), api.OK)
		}
		b.refuseNumbers("abcd", "k", api.NoUpload)
		next := b.started("abcd", "k")
		parts, e := upload.Parts(b.room(), "abcd", "k", next)
		lists(t, parts, e, nil, api.OK)
		for _, ended := range []uint64{id, next - 1} {
			for n := range 18 {
				says(t, b.part("abcd", "k", ended, n, "one"), api.NoUpload)
			}
			for _, list := range [][]int{nil, {1}, {1, 2}, {2, 1}} {
				_, e := b.finish("abcd", "k", ended, list, 1)
				says(t, e, api.NoUpload)
			}
			says(t, b.abort("abcd", "k", ended), api.NoUpload)
		}
		b.emptied()
	}
}

// P17.1: a bucket in which there is an upload isn't empty; behind its end it is, if there is no version.
func TestBucketsWithUploads(t *testing.T) {
	b := ready(t, 60)
	for _, s := range someBuckets()[:3] {
		id := b.started(s, "k")
		b.drop(s)
		b.parts(s, "k", id, "one")
		b.drop(s)
		says(t, b.abort(s, "k", id), api.OK)
		b.drop(s)
		b.refuseNumbers(s, "k", api.NoBucket)
		b.set(s, 1)
		id = b.started(s, "k")
		b.parts(s, "k", id, "one")
		v, e := b.finish(s, "k", id, []int{1}, 1)
		says(t, e, api.OK)
		b.drop(s)
		b.removeKept(v.ID)
		b.drop(s)
	}
	b.emptied()
}

// fill: somebody else takes all pages, and an item has markers till there is no room for one more.
func (b *bench) fill() {
	b.t.Helper()
	b.leave(0)
	for range 99 {
		if b.delete("abcd", "fill", 1) == api.ErrFull {
			return
		}
	}
	b.t.Fatal("always room")
}

// R1, P17.1: which error comes first where several would fit: ErrDown, BadName, NoBucket, NoUpload, BadPart, ErrArg or ErrBig, ErrFull.
func TestWhichErrorComesFirst(t *testing.T) {
	b := ready(t, 1100)
	b.lazy = true
	ids := map[string]uint64{}
	for _, s := range someBuckets()[:3] {
		ids[s] = b.started(s, "fill")
		says(t, b.partRefs(s, "fill", ids[s], 2, b.takeRefs(2001)), api.OK)
		says(t, b.partRefs(s, "fill", ids[s], 3, b.takeRefs(2000)), api.OK)
	}
	b.fill()
	b.lazy = false
	wrong := noRecipes()[3]
	refused := func(s, item string, id uint64, want api.Errno) {
		t.Helper()
		says(t, b.partRefs(s, item, id, 17, wrong), want)
		says(t, b.partRefs(s, item, id, 1, wrong), want)
		says(t, b.partRefs(s, item, id, 1, ghosts(40)), want)
		for _, list := range [][]int{nil, {2, 3}, {2}} {
			_, e := b.finish(s, item, id, list, 1)
			says(t, e, want)
		}
		says(t, b.abort(s, item, id), want)
		parts, e := upload.Parts(b.room(), s, item, id)
		lists(t, parts, e, nil, want)
	}
	b.lazy = true
	for _, s := range noBuckets() {
		refused(s, "k", 1, api.BadName)
		refused(s, "", 1, api.BadName)
		_, e := b.start(s, "k", 1)
		says(t, e, api.BadName)
	}
	for _, item := range noItems() {
		for _, s := range []string{"none", "abcd"} {
			refused(s, item, ids["abcd"], api.BadName)
			_, e := b.start(s, item, 1)
			says(t, e, api.BadName)
		}
	}
	refused("none", "fill", ids["abcd"], api.NoBucket)
	refused("abcd", "none", ids["abcd"], api.NoUpload)
	refused("abc", "fill", ids["abcd"], api.NoUpload)
	refused("abcd", "fill", 99, api.NoUpload)
	_, e := b.start("none", "k", 1)
	says(t, e, api.NoBucket)
	_, e = b.start("abcd", "fill", 1)
	says(t, e, api.ErrFull)
	b.lazy = false
	for _, s := range someBuckets()[:3] {
		was := b.now()
		put := func(n int, refs []api.Ref) api.Errno {
			return upload.Put(b.room(), b.store(), s, "fill", ids[s], n, refs)
		}
		says(t, put(17, wrong), api.BadPart)
		says(t, put(0, ghosts(4000)), api.BadPart)
		says(t, put(1, wrong), api.ErrArg)
		says(t, put(1, ghosts(4001)), api.ErrArg)
		says(t, put(1, ghosts(4000)), api.ErrBig)
		says(t, put(2, ghosts(4000)), api.ErrBig)
		says(t, put(1, nil), api.ErrFull)
		says(t, put(1, ghosts(40)), api.ErrFull)
		for _, list := range [][]int{nil, {3, 2}, {2, 3, 4}, {1, 2, 3}, {2, 2, 3}} {
			v, e := upload.Finish(b.room(), b.store(), s, "fill", ids[s], list, 1)
			tells(t, v, e, api.Version{}, api.BadPart)
		}
		v, e := upload.Finish(b.room(), b.store(), s, "fill", ids[s], []int{2, 3}, 1)
		tells(t, v, e, api.Version{}, api.ErrBig)
		b.stays(was)
	}
	b.bringDown()
	downs(t, b.room())
}

// downs: that each call of a room answers ErrDown, and nothing beside it.
func downs(t *testing.T, r *room.Room) {
	t.Helper()
	for _, s := range append(someBuckets(), noBuckets()...) {
		for _, item := range append(someItems(), noItems()...) {
			lost(t, r, s, item)
			id, e := upload.Start(r, s, item, 1)
			tells(t, id, e, 0, api.ErrDown)
			downsChange(t, r, chunks.At(r), s, item)
		}
	}
}

// downsChange: that each call of a room and a store that changes something of an item answers ErrDown, and nothing beside it.
func downsChange(t *testing.T, r *room.Room, s *chunks.Store, bucket, item string) {
	t.Helper()
	for _, id := range []uint64{0, 1, 4, math.MaxUint64} {
		for _, n := range []int{0, 1, 17} {
			for _, refs := range [][]api.Ref{nil, ghosts(1), {{}}, {{ID: "x", Len: 1}}} {
				says(t, upload.Put(r, s, bucket, item, id, n, refs), api.ErrDown)
			}
		}
		for _, list := range [][]int{nil, {1}, {2, 1}, {1, 2}, {17}} {
			v, e := upload.Finish(r, s, bucket, item, id, list, 1)
			tells(t, v, e, api.Version{}, api.ErrDown)
		}
		says(t, upload.Abort(r, s, bucket, item, id), api.ErrDown)
	}
}

// R2: of a nil room, a zero one, and of rooms of changes and logs that are none: ErrDown; so it is of a store that is none, and nothing is changed then.
func TestNil(t *testing.T) {
	rooms := map[string]*room.Room{
		"nil":        nil,
		"zero":       {},
		"nil change": room.Of(nil),
		"nil log":    room.Of(tx.Begin(nil)),
		"zero log":   room.Of(tx.Begin(&wal.Log{})),
	}
	b := ready(t, 60)
	for k, s := range someBuckets()[:3] {
		b.parts(s, "k", b.started(s, "k"), texts()[k], "two")
	}
	was := b.now()
	stores := []*chunks.Store{nil, {}}
	for name, r := range rooms {
		t.Run(name, func(t *testing.T) { downs(t, r) })
		stores = append(stores, chunks.At(r))
		downsChange(t, r, b.store(), "abc", "k")
	}
	for _, s := range stores {
		for _, bucket := range []string{"abc", "abcd", "abb", "none", ""} {
			for _, item := range []string{"k", "kk", ""} {
				downsChange(t, b.room(), s, bucket, item)
			}
		}
	}
	b.unchanged(was)
}

// begunOf: an item's uploads, as words: of each its number, and behind it its parts' numbers.
func (b *bench) begunOf(s string) string {
	b.t.Helper()
	all, e := upload.All(b.room(), s)
	says(b.t, e, api.OK)
	var words []string
	for _, u := range all {
		parts, e := upload.Parts(b.room(), s, u.Key, u.ID)
		says(b.t, e, api.OK)
		word := fmt.Sprint(u.Key, u.ID)
		for _, p := range parts {
			word += fmt.Sprint(":", p.N)
		}
		words = append(words, word)
	}
	return strings.Join(words, " ")
}

// P17.1: of a room whose log has gone down each call answers ErrDown, of both rooms; opened again, what was committed is there, and nothing else.
func TestLogThatIsDown(t *testing.T) {
	b := ready(t, 150)
	first, second := b.started("abc", "k"), b.started("abcd", "k")
	b.parts("abc", "k", first, texts()[5], "two")
	b.parts("abcd", "k", second, texts()[6])
	third := b.started("abcd", "kk")
	b.commit()
	b.rest()
	b.parts("abc", "k", first, "other", "two", "three")
	b.parts("abb", "k", b.started("abb", "k"), "one")
	_, e := b.finish("abcd", "k", second, []int{1}, 2)
	says(t, e, api.OK)
	says(t, b.abort("abcd", "kk", third), api.OK)
	b.bringDown()
	downs(t, b.rooms[0])
	downs(t, b.rooms[1])
	b.reopen()
	if got := b.begunOf("abc") + "," + b.begunOf("abcd") + "," + b.begunOf("abb"); got != "k1:1:2,k2:1 kk3," {
		t.Fatal(got)
	}
	v, e := b.finish("abc", "k", first, []int{1, 2}, 3)
	tells(t, b.whole(v), e, texts()[5]+"two", api.OK)
	b.emptied()
}

// P17.1: two rooms' changes: what one does shows in the other behind Commit alone, and nowhere when it is given up; each call, by either; and it is there when the log is opened again.
func TestTwoRooms(t *testing.T) {
	calls := []func(b *bench){
		func(b *bench) { b.started("abc", "new") },
		func(b *bench) { b.started("abb", "k") },
		func(b *bench) { says(b.t, b.part("abc", "k", 1, 9, texts()[8]), api.OK) },
		func(b *bench) { says(b.t, b.part("abcd", "k", 2, 1, "other"), api.OK) },
		func(b *bench) { says(b.t, b.part("abb", "k", 3, 2, ""), api.OK) },
		func(b *bench) { _, e := b.finish("abc", "k", 1, []int{1, 2}, 9); says(b.t, e, api.OK) },
		func(b *bench) { _, e := b.finish("abcd", "k", 2, []int{2}, 9); says(b.t, e, api.OK) },
		func(b *bench) { b.abortBegun(3) },
	}
	for _, call := range calls {
		b := ready(t, 100)
		for k, s := range someBuckets()[:3] {
			b.parts(s, "k", b.started(s, "k"), texts()[3+k], "two")
		}
		b.commit()
		for range 2 {
			was := b.now()
			call(b)
			b.forget()
			b.unchanged(was)
			mark := b.mark()
			call(b)
			b.back(mark)
			b.unchanged(was)
		}
		call(b)
		b.commit()
		b.reopen()
		b.commit()
		b.reopen()
		b.emptied()
	}
}

// spoil: overwrites a text's bytes, so that whoever shares them has another one.
func spoil(s string) {
	for k := range len(s) {
		*(*byte)(unsafe.Add(unsafe.Pointer(unsafe.StringData(s)), k)) = 'y'
	}
}

// given: a text whose bytes nobody else has.
func given(s string) string {
	bytes := []byte(s)
	return unsafe.String(unsafe.SliceData(bytes), len(bytes))
}

// R4: what a call hands out or takes is shared with nothing.
func TestSharesNothing(t *testing.T) {
	b := ready(t, 250)
	for k, s := range someBuckets()[:3] {
		for j, item := range someItems()[:3] {
			asked, key := given(s), given(item)
			want, _ := b.want.start(s, item, 3)
			id, e := upload.Start(b.room(), asked, key, 3)
			tells(t, asked+key, e, s+item, api.OK)
			spoil(asked)
			spoil(key)
			tells(t, id, e, want, api.OK)
			b.partShared(s, item, id, 1+j, texts()[3+k])
			b.partShared(s, item, id, 9, texts()[3+j])
			b.sharesNoAnswers(s, item, id)
		}
	}
	b.commit()
	b.reopen()
	for k, id := range b.want.begunNumbers() {
		s, item := b.want.uploads[id].bucket, b.want.uploads[id].u.Key
		b.sharesNoAnswers(s, item, id)
		asked, key := given(s), given(item)
		if k%3 == 0 {
			says(t, upload.Abort(b.room(), b.store(), asked, key, id), api.OK)
			says(t, b.want.abort(s, item, id), api.OK)
		} else {
			b.finishShared(asked, key, id)
		}
		tells(t, asked+key, api.OK, s+item, api.OK)
		spoil(asked)
		spoil(key)
		b.check()
	}
	b.emptied()
}

// partShared: Put of texts and refs that are overwritten behind it, and of which none has changed by it.
func (b *bench) partShared(s, item string, id uint64, n int, text string) {
	b.t.Helper()
	refs, e := recipe.Build(b.store(), text)
	says(b.t, e, api.OK)
	asked, key, want := given(s), given(item), slices.Clone(refs)
	for k := range refs {
		refs[k].ID = given(refs[k].ID)
	}
	says(b.t, upload.Put(b.room(), b.store(), asked, key, id, n, refs), api.OK)
	tells(b.t, asked+key, e, s+item, api.OK)
	lists(b.t, refs, e, want, api.OK)
	for k := range refs {
		spoil(refs[k].ID)
	}
	clear(refs)
	spoil(asked)
	spoil(key)
	says(b.t, b.want.putPart(s, item, id, n, want), api.OK)
	b.check()
}

// finishShared: Finish with a list that is overwritten behind it, and of which nothing has changed by it; what it tells is overwritten, too.
func (b *bench) finishShared(s, item string, id uint64) {
	b.t.Helper()
	want, _ := b.want.finish(strings.Clone(s), strings.Clone(item), id, []int{9}, 5)
	list := []int{9, 16, 16}
	v, e := upload.Finish(b.room(), b.store(), s, item, id, list[:1], 5)
	lists(b.t, list, e, []int{9, 16, 16}, api.OK)
	clear(list)
	want.Page = v.Page
	tells(b.t, v, e, want, api.OK)
	spoil(v.Bucket)
	tells(b.t, v.Key, e, item, api.OK)
	spoil(v.Key)
}

// sharesNoAnswers: what All, Parts and Refs hand out.
func (b *bench) sharesNoAnswers(s, item string, id uint64) {
	b.t.Helper()
	r, asked, key := b.room(), given(s), given(item)
	parts, e := upload.Parts(r, asked, key, id)
	says(b.t, e, api.OK)
	all, e := upload.All(r, asked)
	spoil(asked)
	spoil(key)
	lists(b.t, all, e, b.want.begunIn(s), api.OK)
	for _, p := range parts {
		refs, e := upload.Refs(r, p)
		want := b.want.uploads[id].parts[p.N]
		lists(b.t, refs, e, want, api.OK)
		for k := range refs {
			spoil(refs[k].ID)
			lists(b.t, refs[k+1:], e, want[k+1:], api.OK)
			refs[k] = api.Ref{}
		}
	}
	clear(parts)
	again, e := upload.All(r, s)
	for k, u := range all {
		spoil(u.Key)
		lists(b.t, all[k+1:], e, again[k+1:], api.OK)
		all[k] = api.Upload{}
	}
	b.check()
}

// R7: the same calls leave the same homes, whatever was done and taken back between.
func TestSameCallsSameHomes(t *testing.T) {
	run := func(between func(b *bench, k int)) []string {
		b := ready(t, 300)
		b.lazy = true
		for k, text := range append(texts(), texts()...) {
			for _, s := range someBuckets()[:3] {
				id, e := b.start(s, someItems()[k%3], uint64(k))
				says(t, e, api.OK)
				b.part(s, someItems()[k%3], id, 1+k%16, text)
				between(b, k)
				b.part(s, someItems()[k%3], id, 16, text)
				if k%2 == 0 {
					b.finish(s, someItems()[k%3], id, []int{1 + k%16}, 5)
				}
			}
			if ids := b.want.begunNumbers(); len(ids) > 0 {
				b.abortBegun(ids[k%len(ids)])
			}
			between(b, k)
		}
		b.lazy = false
		return b.now().homes
	}
	want := run(func(b *bench, k int) {})
	got := run(func(b *bench, k int) {
		mark := b.mark()
		id, _ := b.start("abc", "between", 1)
		b.part("abc", "between", id, 1, texts()[k%4])
		b.finish("abc", "between", id, []int{1}, 1)
		b.back(mark)
		b.start("none", "k", 1)
		b.partRefs("abc", "k", 1, 1, noRecipes()[k%5])
		b.finish("abc", "k", 1, nil, 5)
		b.abort("abc", "k", 999)
		b.look("abcd", "k")
	})
	if !slices.Equal(got, want) {
		t.Fatal("other homes")
	}
}

// P17.1: uploads and parts stand in the map at their keys, and nothing else of theirs does; what somebody else has in other maps, or just beside them in this one, is none of them, and stays.
func TestBesideOthers(t *testing.T) {
	b := ready(t, 100)
	r, m := b.room(), tree.At(b.room(), 4)
	beside := []string{name.VersionKey("abcd", "k", 1), name.UploadKey("abce", "k", 1), name.UploadKey("abcd", "l", 2), name.UploadKey("abcd", "k", 2), name.PartKey(0, 1), name.PartKey(2, 1), name.PartKey(2, 0), name.PartKey(2, 17), "p", "p\x00\x00\x00\x00\x00\x00\x00", "p\x00\x00\x00\x00\x00\x00\x00\x02\xff\xff", "q"}
	for _, key := range beside {
		says(t, m.Put(key, "somebody"), api.OK)
	}
	for place := 6; place < 16; place++ {
		says(t, tree.At(r, place).Put(name.UploadKey("abcd", "k", 1), "v"), api.OK)
	}
	id, e := upload.Start(r, "abcd", "k", 5)
	tells(t, id, e, 1, api.OK)
	parts, e := upload.Parts(r, "abcd", "k", 1)
	lists(t, parts, e, nil, api.OK)
	refs, e := recipe.Build(b.store(), "one")
	says(t, e, api.OK)
	says(t, upload.Put(r, b.store(), "abcd", "k", 1, 1, refs), api.OK)
	val, there, e := m.Get(name.PartKey(1, 1))
	tells(t, there && val != "", e, true, api.OK)
	_, there, e = m.Get(name.UploadKey("abcd", "k", 1))
	tells(t, there, e, true, api.OK)
	parts, e = upload.Parts(r, "abcd", "k", 1)
	tells(t, len(parts), e, 1, api.OK)
	says(t, upload.Abort(r, b.store(), "abcd", "k", 1), api.OK)
	n, e := m.Count()
	tells(t, n, e, 3+len(beside), api.OK)
	for _, key := range beside {
		val, there, e := m.Get(key)
		tells(t, val, e, "somebody", api.OK)
		tells(t, there, e, true, api.OK)
	}
	for place := 6; place < 16; place++ {
		n, e := tree.At(r, place).Count()
		tells(t, n, e, 1, api.OK)
	}
}

// P17.1, Refs: of a part that is kept its recipe; of what no part is, whatever its number, its Size and its Page: ErrLost, as far as that is found, and nothing beside it.
func TestRefsOfNone(t *testing.T) {
	b := ready(t, 60)
	id := b.started("abcd", "k")
	b.parts("abcd", "k", id, texts()[5], "")
	parts, e := upload.Parts(b.room(), "abcd", "k", id)
	says(t, e, api.OK)
	for _, p := range parts {
		list := []api.Part{{}, {N: 1, Page: -1}, {N: 1, Page: math.MaxInt}, {N: 1, Page: math.MinInt}, {N: 1, Page: 59}}
		for _, n := range noParts() {
			list = append(list, api.Part{N: n, Size: p.Size, Page: p.Page})
		}
		for _, n := range []int{-1, 1, 1 << 32, math.MinInt, math.MaxInt} {
			list = append(list, api.Part{N: p.N, Size: p.Size + n, Page: p.Page}, api.Part{N: p.N, Size: p.Size, Page: p.Page + 1<<16})
		}
		for _, none := range list {
			was := b.now()
			refs, e := upload.Refs(b.room(), none)
			lists(t, refs, e, nil, api.ErrLost)
			b.stays(was)
		}
	}
	says(t, b.abort("abcd", "k", id), api.OK)
	for _, p := range parts {
		refs, e := upload.Refs(b.room(), p)
		lists(t, refs, e, nil, api.ErrLost)
	}
}
