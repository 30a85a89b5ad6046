package version_test

import (
	"fmt"
	"math"
	"math/rand"
	"slices"
	"strings"
	"testing"
	"unsafe"

	"cooperage/api"
	"cooperage/blob"
	"cooperage/bucket"
	"cooperage/chunks"
	"cooperage/name"
	"cooperage/recipe"
	"cooperage/room"
	"cooperage/tree"
	"cooperage/tx"
	"cooperage/version"
	"cooperage/wal"
)

// long: the longest item's key there is.
var long = strings.Repeat("\xff", 40)

// someBuckets: of which one begins another one, or is just less or just more than one.
func someBuckets() []string {
	return []string{"abc", "abcd", "abb", "000"}
}

// someItems: of which one begins another one, or is just less or just more than one, and the shortest and the longest ones.
func someItems() []string {
	return []string{"k", "kk", "j", "l", "k\x01", "\x01", long, long[:39]}
}

// noBuckets: names that no bucket has: too short, too long, with a - or something else where it can't be.
func noBuckets() []string {
	return []string{"", "a", "ab", "-abc", "abc-", "Abc", "a.c", "abc\x00", "\x00abc", "a\x00c", "abc\xff", strings.Repeat("a", 17), strings.Repeat("a", 1<<17)}
}

// noItems: keys that no item has: too short, too long, with a byte 0.
func noItems() []string {
	return []string{"", "\x00", "k\x00", "\x00k", "k\x00k", long + "\xff", long[1:] + "\x00", strings.Repeat("k", 41), strings.Repeat("k", 256+1), strings.Repeat("k", 1<<17)}
}

// times: for Born.
func times() []uint64 {
	return []uint64{0, 1, 255, 256, 1 << 32, 1 << 63, math.MaxUint64 - 1, math.MaxUint64}
}

// numbers: that versions may have, and that none has.
func numbers() []uint64 {
	return []uint64{0, 1, 2, 3, 9, 255, 256, 1 << 32, 1 << 62, 1 << 63, math.MaxUint64 - 1, math.MaxUint64}
}

// drawnText: n bytes of any values, the same ones at each run for one seed.
func drawnText(seed, n int) string {
	text := make([]byte, n)
	rand.New(rand.NewSource(int64(seed))).Read(text)
	return string(text)
}

// texts: of no byte, of one chunk, of several, of some that are the same, of more than a page of refs.
func texts() []string {
	block := drawnText(1, 150)
	return []string{"", "x", strings.Repeat("\x00", 16), drawnText(2, 100), block, block + block, drawnText(3, 60) + block, strings.Repeat("\x00", 400), drawnText(4, 1500)}
}

// ghosts: n refs that are right, whose chunks no store has, as far as anybody knows.
func ghosts(n int) []api.Ref {
	var refs []api.Ref
	for k := range n {
		refs = append(refs, api.Ref{ID: fmt.Sprintf("%033d", k), Len: 1 + k%128})
	}
	return refs
}

// noRecipes: refs that are none: one of a name or a Len that isn't right, first, last, or in the midst of others.
func noRecipes() [][]api.Ref {
	var list [][]api.Ref
	right := api.Ref{ID: strings.Repeat("n", 33), Len: 9}
	wrong := []api.Ref{{}, {Len: 1}, {ID: "x", Len: 1}, {ID: right.ID[1:], Len: 1}, {ID: right.ID + "n", Len: 1}}
	for _, n := range []int{math.MinInt, -1, 0, 129, 256, 257, 1<<32 + 1, math.MaxInt} {
		wrong = append(wrong, api.Ref{ID: right.ID, Len: n})
	}
	for _, ref := range wrong {
		list = append(list, []api.Ref{ref}, []api.Ref{ref, right}, []api.Ref{right, ref}, []api.Ref{right, ref, right})
	}
	return list
}

// ready: rooms of so many pages, with buckets: abc is Off, abcd is Kept, abb is Suspended.
func ready(t *testing.T, pages int) *bench {
	t.Helper()
	b := laid(t, pages)
	for k, s := range []string{"abc", "abcd", "abb"} {
		b.set(s, k)
	}
	b.commit()
	return b
}

// P15.1: the example: Kept: Put, Delete, Find: NoKey; Find with the first number: the first one; and, step by step, what each call tells, in numbers.
func TestStepByStep(t *testing.T) {
	b := laid(t, 60)
	r, s := b.room(), b.store()
	says(t, bucket.Make(r, "abc", 7), api.OK)
	says(t, bucket.SetState(r, "abc", 1), api.OK)
	refs, e := recipe.Build(s, "hello")
	lists(t, refs, e, refsOf("hello"), api.OK)
	first, e := version.Put(r, s, "abc", "k", refs, 8)
	tells(t, first, e, api.Version{Bucket: "abc", Key: "k", ID: 1, Born: 8, Size: 5, Page: first.Page}, api.OK)
	marker, e := version.Delete(r, s, "abc", "k", 9)
	tells(t, marker, e, api.Version{Bucket: "abc", Key: "k", ID: 2, Marker: true, Born: 9}, api.OK)
	found, e := version.Find(r, "abc", "k", 0)
	tells(t, found, e, api.Version{}, api.NoKey)
	found, e = version.Find(r, "abc", "k", 2)
	tells(t, found, e, api.Version{}, api.NoKey)
	found, e = version.Find(r, "abc", "k", 3)
	tells(t, found, e, api.Version{}, api.NoVersion)
	found, e = version.Find(r, "abc", "k", 1)
	tells(t, found, e, first, api.OK)
	all, e := version.All(r, "abc", "k")
	lists(t, all, e, []api.Version{marker, first}, api.OK)
	got, e := version.Refs(r, first)
	lists(t, got, e, refs, api.OK)
	text, e := recipe.Bytes(s, got, 0, 9)
	tells(t, text, e, "hello", api.OK)
	got, e = version.Refs(r, marker)
	lists(t, got, e, nil, api.OK)
	n, e := version.Number(r)
	tells(t, n, e, 3, api.OK)
	says(t, bucket.SetState(r, "abc", 2), api.OK)
	plain, e := version.Delete(r, s, "abc", "k", 10)
	tells(t, plain, e, api.Version{Bucket: "abc", Key: "k", ID: 4, Plain: true, Marker: true, Born: 10}, api.OK)
	empty, e := version.Put(r, s, "abc", "k", nil, 11)
	tells(t, empty, e, api.Version{Bucket: "abc", Key: "k", ID: 5, Plain: true, Born: 11, Page: empty.Page}, api.OK)
	all, e = version.All(r, "abc", "k")
	lists(t, all, e, []api.Version{empty, marker, first}, api.OK)
	says(t, version.Remove(r, s, "abc", "k", 4), api.NoVersion)
	for _, id := range []uint64{2, 5, 1} {
		says(t, version.Remove(r, s, "abc", "k", id), api.OK)
	}
	all, e = version.All(r, "abc", "k")
	lists(t, all, e, nil, api.OK)
	count, pending, e := s.Count(refs[0].ID)
	tells(t, count+pending, e, 0, api.OK)
}

// P15.1, BadName and NoBucket: of each text that is no name all calls that take one answer it, whichever of the two names it is, in a room with versions and in one without.
func TestEachName(t *testing.T) {
	b := laid(t, 100)
	refuse := func(s, item string, want api.Errno) {
		t.Helper()
		_, e := b.putRefs(s, item, nil, 1)
		says(t, e, want)
		says(t, b.delete(s, item, 1), want)
		for _, id := range []uint64{0, 1, math.MaxUint64} {
			says(t, b.remove(s, item, id), want)
		}
		b.look(s, item)
	}
	b.lazy = true
	for range 2 {
		for _, s := range someBuckets() {
			for _, item := range noItems() {
				refuse(s, item, api.BadName)
			}
		}
		for _, s := range noBuckets() {
			for _, item := range []string{"k", "", long, long + "k"} {
				refuse(s, item, api.BadName)
			}
		}
		for _, item := range someItems() {
			refuse("none", item, api.NoBucket)
			refuse("abbb", item, api.NoBucket)
		}
		b.lazy = false
		for k, s := range someBuckets() {
			b.set(s, k%3)
			says(t, b.put(s, "k", "one", 1), api.OK)
		}
	}
}

// P15.1: what is done to one item, by each call, in buckets of each State, changes no other one, though its key begins the other's, or is just less or just more, or its bucket's name does or is.
func TestEachItem(t *testing.T) {
	b := ready(t, 400)
	b.set("000", 2)
	b.lazy = true
	for k, s := range someBuckets() {
		for j, item := range someItems() {
			says(t, b.put(s, item, texts()[(k+j)%len(texts())], uint64(j)), api.OK)
		}
	}
	b.lazy = false
	for k, s := range someBuckets() {
		for j, item := range someItems() {
			if (k+j)%3 > 0 {
				continue
			}
			says(t, b.put(s, item, drawnText(k, 40*j), 1), api.OK)
			says(t, b.delete(s, item, 2), api.OK)
			for _, v := range b.want.all(s, item) {
				says(t, b.remove(s, item, v.ID), api.OK)
				says(t, b.remove(s, item, v.ID), api.NoVersion)
			}
		}
	}
	b.emptied()
}

// P15.1, numbers: of one item no other one's, of the same bucket or of another one, is found or taken away.
func TestNumbersOfOthers(t *testing.T) {
	b := ready(t, 200)
	places := [][2]string{{"abc", "k"}, {"abc", "kk"}, {"abcd", "k"}, {"abcd", "k"}, {"abb", "k"}}
	for k, at := range places {
		says(t, b.put(at[0], at[1], "one", uint64(k)), api.OK)
	}
	for _, at := range places {
		for _, id := range append(b.want.numbers(), numbers()...) {
			want := api.NoVersion
			if v := b.want.versions[id].v; id > 0 && v.Bucket == at[0] && v.Key == at[1] {
				want = api.OK
			}
			mark := b.mark()
			says(t, b.remove(at[0], at[1], id), want)
			b.back(mark)
		}
	}
}

// order: what an item has, the latest first: of each version its number, behind p, if it is plain, and m, if it is a marker.
func (b *bench) order(s, item string) string {
	b.t.Helper()
	all, e := version.All(b.room(), s, item)
	says(b.t, e, api.OK)
	var words []string
	for _, v := range all {
		word := fmt.Sprint(v.ID)
		if v.Marker {
			word = "m" + word
		}
		if v.Plain {
			word = "p" + word
		}
		words = append(words, word)
	}
	return strings.Join(words, " ")
}

// P15.1, the plain version: a second Put of a bucket that isn't Kept gives up the first one, and just the plain one, also where numbered ones stand above and below it; markers likewise.
func TestPlainVersion(t *testing.T) {
	b := ready(t, 200)
	at := func(state int, do string, want string) {
		t.Helper()
		b.set("abc", state)
		e := api.OK
		switch do {
		case "put":
			e = b.put("abc", "k", fmt.Sprint("text ", b.want.last), b.want.last)
		case "delete":
			e = b.delete("abc", "k", b.want.last)
		}
		says(t, e, api.OK)
		if got := b.order("abc", "k"); got != want {
			t.Fatalf("%d, %s: %s, not %s", state, do, got, want)
		}
	}
	at(0, "put", "p1")
	at(0, "put", "p2")
	at(1, "put", "3 p2")
	at(1, "put", "4 3 p2")
	at(2, "put", "p5 4 3")
	at(2, "put", "p6 4 3")
	at(1, "put", "7 p6 4 3")
	at(1, "delete", "m8 7 p6 4 3")
	at(2, "put", "p9 m8 7 4 3")
	at(2, "delete", "pm10 m8 7 4 3")
	at(2, "delete", "pm11 m8 7 4 3")
	at(1, "delete", "m12 pm11 m8 7 4 3")
	at(0, "delete", "m12 m8 7 4 3")
	at(0, "delete", "m12 m8 7 4 3")
	at(0, "put", "p13 m12 m8 7 4 3")
	at(0, "put", "p14 m12 m8 7 4 3")
	at(1, "put", "15 p14 m12 m8 7 4 3")
	at(0, "delete", "15 m12 m8 7 4 3")
	at(2, "delete", "pm16 15 m12 m8 7 4 3")
	at(0, "put", "p17 15 m12 m8 7 4 3")
	at(2, "put", "p18 15 m12 m8 7 4 3")
	b.emptied()
}

// P15.1, P15.2: each State to each other one, with each of Put and Delete ahead and behind.
func TestEachStateToEach(t *testing.T) {
	for steps := range 6 * 6 * 6 {
		b := laid(t, 60)
		b.lazy = true
		for _, step := range []int{steps % 6, steps / 6 % 6, steps / 36} {
			b.set("abc", step%3)
			if step < 3 {
				says(t, b.put("abc", "k", texts()[step+steps%4], 5), api.OK)
			} else {
				says(t, b.delete("abc", "k", 6), api.OK)
			}
			b.look("abc", "k")
			checkChunks(t, b.room(), b.want)
			checkPages(t, b.room(), b.want)
		}
		b.emptied()
	}
}

// P15.1, markers: of Kept and of Suspended, of an item with versions and of one without; found by 0 and by their number as NoKey; taken away by Remove, so that what stood below is the latest one again.
func TestMarkers(t *testing.T) {
	for _, state := range []int{1, 2} {
		for _, puts := range []int{0, 1, 3} {
			b := ready(t, 100)
			b.set("abc", 1)
			for k := range puts {
				says(t, b.put("abc", "k", texts()[k], 1), api.OK)
			}
			b.set("abc", state)
			marker := b.want.last + 1
			says(t, b.delete("abc", "k", 7), api.OK)
			for _, id := range []uint64{0, marker} {
				found, e := version.Find(b.room(), "abc", "k", id)
				tells(t, found, e, api.Version{}, api.NoKey)
			}
			all, e := version.All(b.room(), "abc", "k")
			says(t, e, api.OK)
			tells(t, all[0], e, api.Version{Bucket: "abc", Key: "k", ID: marker, Plain: state == 2, Marker: true, Born: 7}, api.OK)
			refs, e := version.Refs(b.room(), all[0])
			lists(t, refs, e, nil, api.OK)
			says(t, b.remove("abc", "k", marker), api.OK)
			found, e := version.Find(b.room(), "abc", "k", 0)
			if puts == 0 {
				tells(t, found, e, api.Version{}, api.NoKey)
			} else {
				tells(t, found.ID, e, marker-1, api.OK)
			}
		}
	}
}

// P15.1, Remove: of the latest version, of the first one, of one between, plain or not, till none is left: what is left is as it was.
func TestRemove(t *testing.T) {
	for _, first := range []int{0, 2, 4} {
		b := ready(t, 200)
		b.set("abb", 1)
		for k, text := range texts()[:6] {
			b.set("abc", []int{0, 1, 1, 2, 1, 1}[k])
			says(t, b.put("abc", "k", text, uint64(k)), api.OK)
			says(t, b.put("abb", "k", text, uint64(k)), api.OK)
		}
		for k := range b.want.all("abc", "k") {
			list := b.want.all("abc", "k")
			b.removeKept(list[(first+k*3)%len(list)].ID)
		}
		found, e := version.Find(b.room(), "abc", "k", 0)
		tells(t, found, e, api.Version{}, api.NoKey)
		b.rest()
	}
}

// P15.1, numbers: they go up by one over all items and buckets, whichever of Put, Delete and Number takes one; none is told twice, though a call was refused, or what had it is given up.
func TestNumbersGoUp(t *testing.T) {
	b := ready(t, 300)
	told := uint64(0)
	next := func(id uint64, e api.Errno) {
		t.Helper()
		told++
		tells(t, id, e, told, api.OK)
	}
	for k := range 12 {
		s, item := someBuckets()[k%3], someItems()[k%4]
		v, e := b.putRefs(s, item, nil, 1)
		next(v.ID, e)
		says(t, b.delete("abc", item, 1), api.OK)
		_, e = b.putRefs(s, item, noRecipes()[k], 1)
		says(t, e, api.ErrArg)
		_, e = b.putRefs("none", item, nil, 1)
		says(t, e, api.NoBucket)
		_, e = b.putRefs(s, "", nil, 1)
		says(t, e, api.BadName)
		says(t, b.delete(s, "", 1), api.BadName)
		says(t, b.remove(s, item, 99), api.NoVersion)
		n, e := version.Number(b.room())
		next(n, e)
		b.want.last++
		for _, s := range []string{"abcd", "abb"} {
			v, e := version.Delete(b.room(), b.store(), s, "new", 5)
			next(v.ID, e)
			says(t, version.Remove(b.room(), b.store(), s, "new", v.ID), api.OK)
			b.want.last++
		}
		b.check()
	}
}

// P15.1, Number: in a room of no page; and of the numbers behind each: the last one there is, 2^64 - 1, is told, and then none more, by Number, Put and Delete; what needs none is done.
func TestLastNumber(t *testing.T) {
	b := laid(t, 0)
	for range 300 {
		b.number()
	}
	b = ready(t, 60)
	r, s := b.room(), b.store()
	for _, last := range []uint64{255, 1 << 32, 1 << 62, 1<<63 - 1, math.MaxUint64 - 2} {
		says(t, r.SetRoot(5, last), api.OK)
		b.want.last = last
		b.number()
		says(t, b.put("abcd", "k", "one", 1), api.OK)
	}
	was := b.now()
	refused := func(got any, zero any, e api.Errno) {
		t.Helper()
		if got != zero || e != api.ErrFull {
			t.Fatalf("%v, %d", got, e)
		}
		b.unchanged(was)
	}
	n, e := version.Number(r)
	refused(n, uint64(0), e)
	for _, s := range []string{"abcd", "abb"} {
		v, e := version.Put(r, b.store(), s, "k", nil, 1)
		refused(v, api.Version{}, e)
		v, e = version.Delete(r, b.store(), s, "k", 1)
		refused(v, api.Version{}, e)
	}
	says(t, b.delete("abc", "k", 1), api.OK)
	found, e := version.Find(r, "abcd", "k", math.MaxUint64)
	tells(t, found.ID, e, math.MaxUint64, api.OK)
	says(t, b.remove("abcd", "k", math.MaxUint64), api.OK)
	if _, e := version.Put(r, s, "abc", "k", nil, 1); e != api.ErrFull {
		t.Fatal(e)
	}
}

// P15.1, Put: recipes of no byte, of one chunk, of many, with chunks that are the same, at each time; in buckets of each State.
func TestEachRecipe(t *testing.T) {
	b := ready(t, 300)
	b.lazy = true
	for k, text := range append(texts(), texts()...) {
		for _, s := range []string{"abc", "abcd", "abb"} {
			says(t, b.put(s, "k", text, times()[k%len(times())]), api.OK)
			v, e := version.Find(b.room(), s, "k", 0)
			says(t, e, api.OK)
			refs, e := version.Refs(b.room(), v)
			says(t, e, api.OK)
			whole, e := recipe.Bytes(b.store(), refs, 0, v.Size)
			tells(t, whole, e, text, api.OK)
			tells(t, v.Size, e, len(text), api.OK)
		}
	}
	b.emptied()
}

// P15.1, ErrArg: of refs that are none, and nothing has changed.
func TestNoRecipes(t *testing.T) {
	b := ready(t, 60)
	for _, s := range []string{"abc", "abcd", "abb"} {
		says(t, b.put(s, "k", "one", 1), api.OK)
	}
	for k, refs := range append(noRecipes(), ghosts(4001), ghosts(5000)) {
		_, e := b.putRefs([]string{"abc", "abcd", "abb"}[k%3], "k", refs, 1)
		says(t, e, api.ErrArg)
	}
}

// P15.1, Put: the greatest recipes: as many refs as a blob has room for, 3855, are put; of more, up to the 4000 that a recipe may have, it is ErrBig, layer 8's, also where there is no room; of more it is ErrArg.
func TestGreatRecipes(t *testing.T) {
	b := ready(t, 600)
	r, s := b.room(), b.store()
	for _, n := range []int{14, 15, 16, 3854, 3855} {
		refs := ghosts(n)
		v, e := version.Put(r, s, "abcd", "k", refs, 1)
		tells(t, v.Size, e, sizeOf(refs), api.OK)
		got, e := version.Refs(r, v)
		lists(t, got, e, refs, api.OK)
		found, e := version.Find(r, "abcd", "k", 0)
		tells(t, found, e, v, api.OK)
		list, e := blob.List(r, v.Page)
		tells(t, len(list), e, pagesOf(refs), api.OK)
	}
	for range 2 {
		was := b.now()
		for n, want := range map[int]api.Errno{3856: api.ErrBig, 3999: api.ErrBig, 4000: api.ErrBig, 4001: api.ErrArg} {
			for _, bucket := range []string{"abc", "abcd", "abb"} {
				v, e := version.Put(r, s, bucket, "k", ghosts(n), 1)
				tells(t, v, e, api.Version{}, want)
				if now := b.now(); now.mark != was.mark {
					t.Fatal("what was refused has changed something")
				}
			}
		}
		for b.free() > 0 {
			_, e := r.Alloc()
			says(t, e, api.OK)
		}
	}
}

// P15.1, Put: chunks are counted already: it changes nothing of that, though there is none of such a name. What has chunks that aren't there isn't given up: it is lost, by each call that would, and nothing has changed.
func TestGhosts(t *testing.T) {
	b := ready(t, 60)
	r, s := b.room(), b.store()
	refs, e := recipe.Build(s, "there")
	says(t, e, api.OK)
	for _, list := range [][]api.Ref{ghosts(1), append(slices.Clone(refs), ghosts(2)...)} {
		for _, bucket := range []string{"abc", "abb"} {
			mark := r.Mark()
			v, e := version.Put(r, s, bucket, "k", list, 1)
			says(t, e, api.OK)
			got, e := version.Refs(r, v)
			lists(t, got, e, list, api.OK)
			was := b.now()
			after, e := version.Put(r, s, bucket, "k", refs, 1)
			tells(t, after, e, api.Version{}, api.ErrLost)
			after, e = version.Delete(r, s, bucket, "k", 1)
			tells(t, after, e, api.Version{}, api.ErrLost)
			says(t, version.Remove(r, s, bucket, "k", v.ID), api.ErrLost)
			if now := b.now(); now.mark != was.mark || !slices.Equal(now.homes, was.homes) {
				t.Fatal("what was refused has changed something")
			}
			r.Back(mark)
		}
	}
	count, pending, e := s.Count(refs[0].ID)
	tells(t, count+pending, e, 1, api.OK)
}

// turned: versions that are like one, but for one field.
func turned(v api.Version) []api.Version {
	var list []api.Version
	for _, turn := range []func(v *api.Version){
		func(v *api.Version) { v.Bucket = "abcd" },
		func(v *api.Version) { v.Bucket = "none" },
		func(v *api.Version) { v.Bucket = "" },
		func(v *api.Version) { v.Bucket += "\x00" },
		func(v *api.Version) { v.Key = "kk" },
		func(v *api.Version) { v.Key = "" },
		func(v *api.Version) { v.Key += "\x00" },
		func(v *api.Version) { v.ID = 0 },
		func(v *api.Version) { v.ID++ },
		func(v *api.Version) { v.ID = math.MaxUint64 },
		func(v *api.Version) { v.Plain = !v.Plain },
		func(v *api.Version) { v.Marker = !v.Marker },
		func(v *api.Version) { v.Born++ },
		func(v *api.Version) { v.Born = math.MaxUint64 },
		func(v *api.Version) { v.Size++ },
		func(v *api.Version) { v.Size = -1 },
		func(v *api.Version) { v.Size += 1 << 32 },
		func(v *api.Version) { v.Page++ },
		func(v *api.Version) { v.Page = -1 },
		func(v *api.Version) { v.Page += 1 << 16 },
		func(v *api.Version) { v.Page += 1 << 32 },
		func(v *api.Version) { v.Page = math.MaxInt },
		func(v *api.Version) { v.Page = math.MinInt },
	} {
		other := v
		turn(&other)
		if other != v {
			list = append(list, other)
		}
	}
	return list
}

// P15.1, Refs: of a version that is kept: its recipe, nothing of a marker; of one that was given up, and of one that was turned, in each field: ErrLost.
func TestRefs(t *testing.T) {
	b := ready(t, 100)
	for _, bucket := range []string{"abc", "abcd", "abb"} {
		for _, text := range []string{"", "x", texts()[5], "marker"} {
			says(t, b.put(bucket, "kk", "other", 1), api.OK)
			if text == "marker" {
				says(t, b.delete(bucket, "k", 1), api.OK)
			} else {
				says(t, b.put(bucket, "k", text, 1), api.OK)
			}
			all, e := version.All(b.room(), bucket, "k")
			says(t, e, api.OK)
			for _, v := range all {
				for _, other := range turned(v) {
					refs, e := version.Refs(b.room(), other)
					lists(t, refs, e, nil, api.ErrLost)
				}
			}
			b.look(bucket, "k")
			if len(all) > 0 && bucket != "abcd" {
				says(t, b.remove(bucket, "k", all[0].ID), api.OK)
				refs, e := version.Refs(b.room(), all[0])
				lists(t, refs, e, nil, api.ErrLost)
			}
		}
	}
	refs, e := version.Refs(b.room(), api.Version{})
	lists(t, refs, e, nil, api.ErrLost)
	refs, e = version.Refs(b.room(), api.Version{Marker: true})
	lists(t, refs, e, nil, api.ErrLost)
}

// P15.1, Find and All: of an item without versions, in a bucket of each State: NoKey by 0, NoVersion by a number, and nothing.
func TestNoVersions(t *testing.T) {
	b := ready(t, 60)
	for _, s := range []string{"abc", "abcd", "abb"} {
		for _, item := range someItems() {
			for _, id := range numbers() {
				want := api.NoVersion
				if id == 0 {
					want = api.NoKey
				}
				found, e := version.Find(b.room(), s, item, id)
				tells(t, found, e, api.Version{}, want)
				says(t, b.remove(s, item, id), api.NoVersion)
			}
			all, e := version.All(b.room(), s, item)
			lists(t, all, e, nil, api.OK)
		}
	}
}

// P15.1, Delete: of a bucket that is Off, of an item without a plain version: nothing has changed; of Kept and Suspended there is a marker, whatever the item had.
func TestDeleteOfNothing(t *testing.T) {
	b := ready(t, 60)
	was := b.now()
	for _, item := range someItems() {
		says(t, b.delete("abc", item, 1), api.OK)
		b.unchanged(was)
	}
	b.set("abc", 1)
	says(t, b.put("abc", "k", "one", 1), api.OK)
	says(t, b.delete("abc", "kk", 1), api.OK)
	b.set("abc", 0)
	was = b.now()
	says(t, b.delete("abc", "k", 1), api.OK)
	says(t, b.delete("abc", "kk", 1), api.OK)
	b.unchanged(was)
	for _, now := range times() {
		says(t, b.delete("abcd", "k", now), api.OK)
		says(t, b.delete("abb", "k", now), api.OK)
	}
	b.emptied()
}

// fill: somebody else takes all pages, and an item has markers till there is no room for one more.
func (b *bench) fill() {
	b.t.Helper()
	b.leave(0)
	for range 99 {
		if b.delete("abcd", "fill", 1) == api.ErrFull {
			return
		}
	}
	b.t.Fatal("always room")
}

// R1, P15.1: which error comes first where several would fit: ErrDown, BadName, NoBucket, ErrArg or NoKey or NoVersion, ErrFull.
func TestWhichErrorComesFirst(t *testing.T) {
	b := ready(t, 30)
	says(t, b.put("abcd", "k", "one", 1), api.OK)
	b.fill()
	wrong := noRecipes()[0]
	refused := func(s, item string, put, find, remove api.Errno) {
		t.Helper()
		_, e := b.putRefs(s, item, wrong, 1)
		says(t, e, put)
		_, e = version.Find(b.room(), s, item, 0)
		says(t, e, find)
		says(t, b.remove(s, item, 77), remove)
	}
	for _, s := range noBuckets() {
		refused(s, "k", api.BadName, api.BadName, api.BadName)
		refused(s, "", api.BadName, api.BadName, api.BadName)
	}
	for _, item := range noItems() {
		refused("none", item, api.BadName, api.BadName, api.BadName)
		refused("abcd", item, api.BadName, api.BadName, api.BadName)
		says(t, b.delete("abcd", item, 1), api.BadName)
		says(t, b.delete("none", item, 1), api.BadName)
	}
	refused("none", "k", api.NoBucket, api.NoBucket, api.NoBucket)
	says(t, b.delete("none", "k", 1), api.NoBucket)
	refused("abcd", "none", api.ErrArg, api.NoKey, api.NoVersion)
	says(t, b.delete("abcd", "fill", 1), api.ErrFull)
	for _, s := range []string{"abc", "abcd", "abb"} {
		_, e := b.putRefs(s, "fill", wrong, 1)
		says(t, e, api.ErrArg)
		_, e = b.putRefs(s, "fill", nil, 1)
		says(t, e, api.ErrFull)
	}
	b.bringDown()
	downs(t, b.room())
}

// downs: that each call of a room answers ErrDown, and nothing beside it.
func downs(t *testing.T, r *room.Room) {
	t.Helper()
	n, e := version.Number(r)
	tells(t, n, e, 0, api.ErrDown)
	for _, s := range append(someBuckets(), noBuckets()...) {
		for _, item := range append(someItems(), noItems()...) {
			lost(t, r, s, item)
			downsChange(t, r, chunks.At(r), s, item)
		}
	}
}

// downsChange: that each call of a room and a store that changes something of an item answers ErrDown, and nothing beside it.
func downsChange(t *testing.T, r *room.Room, s *chunks.Store, bucket, item string) {
	t.Helper()
	for _, refs := range [][]api.Ref{nil, ghosts(1), {{}}, {{ID: "x", Len: 1}}} {
		v, e := version.Put(r, s, bucket, item, refs, 1)
		tells(t, v, e, api.Version{}, api.ErrDown)
	}
	v, e := version.Delete(r, s, bucket, item, 1)
	tells(t, v, e, api.Version{}, api.ErrDown)
	for _, id := range []uint64{0, 1, math.MaxUint64} {
		says(t, version.Remove(r, s, bucket, item, id), api.ErrDown)
	}
}

// R2: of a nil room, a zero one, and of rooms of changes and logs that are none: ErrDown; so it is of a store that is none, and nothing is changed then.
func TestNil(t *testing.T) {
	rooms := map[string]*room.Room{
		"nil":        nil,
		"zero":       {},
		"nil change": room.Of(nil),
		"nil log":    room.Of(tx.Begin(nil)),
		"zero log":   room.Of(tx.Begin(&wal.Log{})),
	}
	b := ready(t, 60)
	for k, s := range []string{"abc", "abcd", "abb"} {
		says(t, b.put(s, "k", texts()[k], 1), api.OK)
	}
	was := b.now()
	stores := []*chunks.Store{nil, {}}
	for name, r := range rooms {
		t.Run(name, func(t *testing.T) { downs(t, r) })
		stores = append(stores, chunks.At(r))
		downsChange(t, r, b.store(), "abc", "k")
	}
	for _, s := range stores {
		for _, bucket := range []string{"abc", "abcd", "abb", "none", ""} {
			for _, item := range []string{"k", "kk", ""} {
				downsChange(t, b.room(), s, bucket, item)
			}
		}
	}
	b.unchanged(was)
}

// P15.1: of a room whose log has gone down each call answers ErrDown, of both rooms; opened again, what was committed is there, and nothing else.
func TestLogThatIsDown(t *testing.T) {
	b := ready(t, 100)
	says(t, b.put("abc", "k", texts()[5], 1), api.OK)
	says(t, b.put("abcd", "k", texts()[6], 2), api.OK)
	says(t, b.delete("abcd", "kk", 2), api.OK)
	b.commit()
	b.rest()
	says(t, b.put("abc", "k", texts()[7], 3), api.OK)
	says(t, b.put("abb", "k", "one", 3), api.OK)
	says(t, b.remove("abcd", "k", 2), api.OK)
	b.number()
	b.bringDown()
	downs(t, b.rooms[0])
	downs(t, b.rooms[1])
	b.reopen()
	if got := b.order("abc", "k") + "," + b.order("abcd", "k") + "," + b.order("abcd", "kk") + "," + b.order("abb", "k"); got != "p1,2,m3," {
		t.Fatal(got)
	}
	says(t, b.put("abc", "k", texts()[7], 3), api.OK)
	b.emptied()
}

// P15.1: two rooms' changes: what one does shows in the other behind Commit alone, and nowhere when it is given up; each call, by either; and it is there when the log is opened again.
func TestTwoRooms(t *testing.T) {
	calls := []func(b *bench){
		func(b *bench) { says(b.t, b.put("abc", "k", texts()[6], 9), api.OK) },
		func(b *bench) { says(b.t, b.put("abcd", "k", texts()[7], 9), api.OK) },
		func(b *bench) { says(b.t, b.put("abb", "new", "", 9), api.OK) },
		func(b *bench) { says(b.t, b.delete("abc", "k", 9), api.OK) },
		func(b *bench) { says(b.t, b.delete("abcd", "k", 9), api.OK) },
		func(b *bench) { says(b.t, b.delete("abb", "k", 9), api.OK) },
		func(b *bench) { b.removeKept(2) },
		func(b *bench) { b.number() },
	}
	for _, call := range calls {
		b := ready(t, 100)
		for k, s := range []string{"abc", "abcd", "abb"} {
			says(t, b.put(s, "k", texts()[3+k], uint64(k)), api.OK)
		}
		b.commit()
		for range 2 {
			was := b.now()
			call(b)
			b.forget()
			b.unchanged(was)
			mark := b.mark()
			call(b)
			b.back(mark)
			b.unchanged(was)
		}
		call(b)
		b.commit()
		b.reopen()
		b.commit()
		b.reopen()
		b.emptied()
	}
}

// spoil: overwrites a text's bytes, so that whoever shares them has another one.
func spoil(s string) {
	for k := range len(s) {
		*(*byte)(unsafe.Add(unsafe.Pointer(unsafe.StringData(s)), k)) = 'y'
	}
}

// given: a text whose bytes nobody else has.
func given(s string) string {
	bytes := []byte(s)
	return unsafe.String(unsafe.SliceData(bytes), len(bytes))
}

// R4: what a call hands out or takes is shared with nothing.
func TestSharesNothing(t *testing.T) {
	b := ready(t, 200)
	for k, text := range texts() {
		for _, s := range []string{"abc", "abcd", "abb"} {
			b.putShared(s, someItems()[k%3], text, uint64(k))
			b.sharesNoAnswers(s, someItems()[k%3])
		}
	}
	b.commit()
	b.reopen()
	for _, s := range []string{"abc", "abcd", "abb"} {
		for _, item := range someItems()[:3] {
			b.sharesNoAnswers(s, item)
			asked, key := given(s), given(item)
			want, _ := b.want.delete(s, item, 5)
			v, e := version.Delete(b.room(), b.store(), asked, key, 5)
			spoil(asked)
			spoil(key)
			tells(t, v, e, want, api.OK)
			spoil(v.Bucket)
			spoil(v.Key)
			b.check()
			for _, v := range b.want.all(s, item)[:1%(len(b.want.all(s, item))+1)] {
				asked, key := given(s), given(item)
				says(t, version.Remove(b.room(), b.store(), asked, key, v.ID), api.OK)
				tells(t, asked+key, api.OK, s+item, api.OK)
				spoil(asked)
				spoil(key)
				says(t, b.want.remove(s, item, v.ID), api.OK)
				b.check()
			}
		}
	}
	b.emptied()
}

// putShared: Put of texts and refs that are overwritten behind it, and of which none has changed by it; what it tells is overwritten, too.
func (b *bench) putShared(s, item, text string, now uint64) {
	b.t.Helper()
	refs, e := recipe.Build(b.store(), text)
	says(b.t, e, api.OK)
	asked, key, want := given(s), given(item), slices.Clone(refs)
	for k := range refs {
		refs[k].ID = given(refs[k].ID)
	}
	v, e := version.Put(b.room(), b.store(), asked, key, refs, now)
	tells(b.t, asked+key, e, s+item, api.OK)
	lists(b.t, refs, e, want, api.OK)
	for k := range refs {
		spoil(refs[k].ID)
	}
	clear(refs)
	spoil(asked)
	spoil(key)
	wanted, _ := b.want.put(s, item, want, now)
	wanted.Page = v.Page
	tells(b.t, v, e, wanted, api.OK)
	spoil(v.Bucket)
	tells(b.t, v.Key, e, item, api.OK)
	spoil(v.Key)
	b.check()
}

// sharesNoAnswers: what Find, All and Refs hand out.
func (b *bench) sharesNoAnswers(s, item string) {
	b.t.Helper()
	r := b.room()
	for _, v := range b.want.all(s, item) {
		if v.Marker {
			continue
		}
		asked, key := given(s), given(item)
		found, e := version.Find(r, asked, key, v.ID)
		spoil(asked)
		spoil(key)
		tells(b.t, found, e, paged(b.t, r, b.want.versions[v.ID], found), api.OK)
		refs, e := version.Refs(r, found)
		spoil(found.Bucket)
		tells(b.t, found.Key, e, item, api.OK)
		spoil(found.Key)
		lists(b.t, refs, e, b.want.versions[v.ID].refs, api.OK)
		for k := range refs {
			spoil(refs[k].ID)
			lists(b.t, refs[k+1:], e, b.want.versions[v.ID].refs[k+1:], api.OK)
			refs[k] = api.Ref{}
		}
	}
	all, e := version.All(r, s, item)
	says(b.t, e, api.OK)
	again, e := version.All(r, s, item)
	for k, v := range all {
		spoil(v.Bucket)
		tells(b.t, v.Key, e, item, api.OK)
		spoil(v.Key)
		lists(b.t, all[k+1:], e, again[k+1:], api.OK)
		all[k] = api.Version{}
	}
	b.check()
}

// R7: the same calls leave the same homes, whatever was done and taken back between.
func TestSameCallsSameHomes(t *testing.T) {
	run := func(between func(b *bench, k int)) []string {
		b := ready(t, 200)
		b.lazy = true
		for k, text := range append(texts(), texts()...) {
			for _, s := range []string{"abc", "abcd", "abb"} {
				b.put(s, someItems()[k%3], text, uint64(k))
				between(b, k)
				b.delete(s, someItems()[k%2], uint64(k))
			}
			b.remove("abcd", someItems()[k%3], uint64(k))
			between(b, k)
		}
		b.lazy = false
		return b.now().homes
	}
	want := run(func(b *bench, k int) {})
	got := run(func(b *bench, k int) {
		mark := b.mark()
		b.put("abc", "between", texts()[k%4], 1)
		b.delete("abcd", "k", 1)
		b.number()
		b.back(mark)
		b.put("none", "k", "one", 1)
		b.putRefs("abc", "k", noRecipes()[k%5], 1)
		b.remove("abc", "k", 999)
		b.look("abcd", "k")
	})
	if !slices.Equal(got, want) {
		t.Fatal("other homes")
	}
}

// P15.1: versions stand in the map at their keys, and nothing else of theirs does; what somebody else has in other maps, or in uploads and parts of the same item, is none of them, and stays.
func TestBesideOthers(t *testing.T) {
	b := ready(t, 100)
	r, m := b.room(), tree.At(b.room(), 4)
	for _, key := range []string{name.UploadKey("abcd", "k", 1), name.UploadKey("abcd", "k", 2), name.PartKey(1, 1), name.VersionKey("abce", "k", 1)} {
		says(t, m.Put(key, "other"), api.OK)
	}
	for place := 6; place < 16; place++ {
		says(t, tree.At(r, place).Put(name.VersionKey("abcd", "k", 1), "v"), api.OK)
	}
	refs, e := recipe.Build(b.store(), "one")
	says(t, e, api.OK)
	v, e := version.Put(r, b.store(), "abcd", "k", refs, 1)
	tells(t, v.ID, e, 1, api.OK)
	all, e := version.All(r, "abcd", "k")
	lists(t, all, e, []api.Version{v}, api.OK)
	says(t, version.Remove(r, b.store(), "abcd", "k", 1), api.OK)
	n, e := m.Count()
	tells(t, n, e, 3+4, api.OK)
	for place := 6; place < 16; place++ {
		n, e := tree.At(r, place).Count()
		tells(t, n, e, 1, api.OK)
	}
}
