package version_test

import (
	"fmt"
	"math"
	"math/rand"
	"slices"
	"strings"
	"testing"
	"time"

	"cooperage/api"
	"cooperage/blob"
	"cooperage/bucket"
	"cooperage/chunks"
	"cooperage/name"
	"cooperage/recipe"
	"cooperage/room"
	"cooperage/sector"
	"cooperage/tree"
	"cooperage/tx"
	"cooperage/version"
	"cooperage/wal"
)

// one: of a list, drawn.
func one[V any](source *rand.Rand, list []V) V {
	return list[source.Intn(len(list))]
}

// drawnPlace: mostly names of few buckets and items; now and then one that is none, or of a bucket that may not be there.
func drawnPlace(source *rand.Rand) (string, string) {
	s, item := one(source, someBuckets()), one(source, someItems()[:5])
	switch source.Intn(20) {
	case 0:
		s = one(source, noBuckets())
	case 1:
		item = one(source, noItems())
	}
	return s, item
}

// drawnBody: mostly of blocks that come again and again.
func drawnBody(source *rand.Rand) string {
	if source.Intn(4) == 0 {
		return one(source, texts())
	}
	var text strings.Builder
	for range source.Intn(5) {
		text.WriteString(drawnText(source.Intn(5), 50+source.Intn(2)*90))
	}
	return text.String()
}

// drawnNumber: mostly of a version that is kept; now and then another one.
func (b *bench) drawnNumber(source *rand.Rand) uint64 {
	list := b.want.numbers()
	if len(list) == 0 || source.Intn(6) == 0 {
		return one(source, numbers())
	}
	return one(source, list)
}

// act: a drawn call.
func (b *bench) act(source *rand.Rand) {
	b.t.Helper()
	s, item := drawnPlace(source)
	switch source.Intn(24) {
	case 0, 1, 2, 3, 4, 5:
		b.put(s, item, drawnBody(source), one(source, times()))
	case 6, 7, 8, 9:
		b.delete(s, item, one(source, times()))
	case 10, 11, 12:
		id := b.drawnNumber(source)
		if x, there := b.want.versions[id]; there && source.Intn(6) > 0 {
			s, item = x.v.Bucket, x.v.Key
		}
		b.remove(s, item, id)
	case 13:
		b.number()
	case 14:
		b.putRefs(s, item, one(source, noRecipes()), 1)
	case 15:
		b.look(s, item)
	default:
		if !b.down {
			b.actBeside(source)
		}
	}
}

// actBeside: something drawn that is done beside the calls, of a log that is up.
func (b *bench) actBeside(source *rand.Rand) {
	b.t.Helper()
	switch source.Intn(16) {
	case 0, 1, 2, 3:
		b.set(one(source, someBuckets()), source.Intn(3))
	case 4:
		b.drop(one(source, someBuckets()))
	case 5, 6:
		b.merge(one(source, []int{1, 7, math.MaxInt}))
	case 7, 8:
		b.reclaim(one(source, []int{1, 7, math.MaxInt}))
	case 9:
		b.leave(source.Intn(b.room().Pages() + 1))
	case 10, 11:
		b.leave(roomy(nil) + 20)
	case 12:
		b.mark()
	case 13:
		b.back(one(source, append(b.marks, marked{math.MaxInt, nil})).mark)
	case 14:
		b.commit()
	case 15:
		b.forget()
	}
}

// P15.1, P15.2: drawn calls, of two rooms by turns, of few pages and of many, merged at any time, to the log's going down, behind it, and when it is opened again; all versions behind each of them. At the end all are given up.
func TestDrawnActs(t *testing.T) {
	for _, pages := range []int{0, 1, 3, 8, 20, 50, 150} {
		for seed := range 3 {
			source := rand.New(rand.NewSource(int64(seed)))
			b := laid(t, pages)
			for range 2 {
				for range 150 {
					b.lazy = source.Intn(2) > 0
					b.act(source)
				}
				b.lazy = false
				b.check()
				b.bringDown()
				for range 20 {
					b.act(source)
				}
				b.reopen()
			}
			b.emptied()
		}
	}
}

// P15.1, P15.2: drawn calls of many items with many versions, in maps of several levels; then all come to rest, and then all are given up.
func TestDrawnManyVersions(t *testing.T) {
	source := rand.New(rand.NewSource(3))
	b := ready(t, 3000)
	b.lazy = true
	for k := range 2500 {
		if k%40 == 0 {
			b.commit()
		}
		s, item := one(source, []string{"abc", "abcd", "abb"}), fmt.Sprintf("%02d", source.Intn(30))+strings.Repeat("x", source.Intn(2)*38)
		switch source.Intn(10) {
		case 0, 1, 2, 3, 4:
			b.put(s, item, drawnBody(source), uint64(source.Intn(99)))
		case 5:
			b.delete(s, item, 9)
		case 6:
			v := b.want.versions[b.drawnNumber(source)].v
			b.remove(v.Bucket, v.Key, v.ID)
		case 7:
			b.look(s, item)
		case 8:
			b.merge(source.Intn(100))
			b.reclaim(source.Intn(20))
		case 9:
			b.set(s, source.Intn(3))
		}
	}
	if len(b.want.versions) < 200 {
		t.Fatalf("%d versions", len(b.want.versions))
	}
	b.commit()
	b.reopen()
	b.rest()
	b.lazy = false
	b.check()
	b.emptied()
}

// justEnough: that a call that puts such refs is done with as many free pages as it needs; that with one less, and with none, if it needs any, it is refused, and nothing has changed. It tells how many it needs.
func (b *bench) justEnough(refs []api.Ref, do func() api.Errno, ask call) int {
	b.t.Helper()
	b.leave(roomy(refs))
	needs := b.needs(refs, ask)
	if needs > 0 {
		b.leave(needs - 1)
		says(b.t, do(), api.ErrFull)
		b.leave(0)
		says(b.t, do(), api.ErrFull)
	}
	b.leave(needs)
	says(b.t, do(), api.OK)
	return needs
}

// built: a text's recipe, built in a room with room for it.
func (b *bench) built(text string) []api.Ref {
	b.t.Helper()
	b.leave(200)
	refs, e := recipe.Build(b.store(), text)
	says(b.t, e, api.OK)
	b.want.hand = refs
	return refs
}

// P15.1, ErrFull: a Put in a room with just as many free pages as it needs is done; with one less, and with none, it is refused. In a bucket of Kept it needs those of its recipe, and now and then one or two of the map; in one of Off or Suspended those fewer that the plain version gives back.
func TestLittleRoomForPut(t *testing.T) {
	for state, s := range []string{"abc", "abcd", "abb"} {
		b, beside := ready(t, 900), map[int]int{}
		b.lazy = true
		for k := range 90 {
			item := fmt.Sprintf("%d", k%3)
			refs := b.built(drawnText(k%7, k%4*400))
			back := 0
			for _, v := range b.want.all(s, item) {
				if v.Plain && state != 1 {
					back += pagesOf(b.want.versions[v.ID].refs)
				}
			}
			needs := b.justEnough(refs,
				func() api.Errno { _, e := b.putRefs(s, item, refs, 1); return e },
				func() (api.Version, api.Errno) { return version.Put(b.room(), b.store(), s, item, refs, 1) })
			beside[needs-max(0, pagesOf(refs)-back)]++
			if k%30 == 0 {
				b.rest()
			}
		}
		if beside[0] < 60 || state == 1 && beside[1] < 5 || beside[0]+beside[1]+beside[2] < 90 {
			t.Fatalf("%s: pages that were needed beside the recipes': %v", s, beside)
		}
		b.emptied()
	}
}

// P15.1, ErrFull: a Delete of a bucket that is Kept or Suspended in a room with just as many free pages as it needs is done; with one less, and with none, if it needs any, it is refused.
func TestLittleRoomForDelete(t *testing.T) {
	for _, s := range []string{"abcd", "abb"} {
		b, needed := ready(t, 900), map[int]int{}
		b.lazy = true
		for k := range 120 {
			item := fmt.Sprintf("%02d", k*7%100)
			if k%5 == 0 {
				b.leave(60)
				says(t, b.put(s, item, drawnText(k, 300), 1), api.OK)
			}
			needed[b.justEnough(nil,
				func() api.Errno { return b.delete(s, item, 1) },
				func() (api.Version, api.Errno) { return version.Delete(b.room(), b.store(), s, item, 1) })]++
		}
		if needed[0] < 40 || needed[1] < 3 || needed[0]+needed[1]+needed[2] < 120 {
			t.Fatalf("%s: how many pages were needed: %v", s, needed)
		}
		b.emptied()
	}
}

// P15.3: in a room without a free page Delete of a bucket that is Off, and Remove of any version, plain or not, marker or not, are done, however many chunks are counted less; somebody else takes each page that is given back. Chunks are counted right all the while.
func TestFullRoom(t *testing.T) {
	for _, merged := range []bool{false, true} {
		b, source := ready(t, 2500), rand.New(rand.NewSource(6))
		b.lazy = true
		for k := range 40 {
			b.commit()
			item := fmt.Sprintf("%02d", k%20)
			says(t, b.put("abc", item, drawnText(k, source.Intn(900)), 1), api.OK)
			says(t, b.put("abcd", item, drawnText(k%9, source.Intn(900)), 1), api.OK)
			says(t, b.put("abb", item, drawnText(k%5, 500), 1), api.OK)
			if k%3 == 0 {
				says(t, b.delete("abcd", item, 1), api.OK)
				says(t, b.delete("abb", item, 1), api.OK)
			}
		}
		if merged {
			b.merge(math.MaxInt)
		}
		b.leave(0)
		for k := range 20 {
			says(t, b.delete("abc", fmt.Sprintf("%02d", k), 1), api.OK)
			b.leave(0)
		}
		b.set("abcd", 2)
		b.set("abb", 1)
		list := b.want.numbers()
		source.Shuffle(len(list), func(i, j int) { list[i], list[j] = list[j], list[i] })
		for k, id := range list {
			b.removeKept(id)
			b.leave(0)
			if k%50 == 0 {
				checkChunks(t, b.room(), b.want)
				checkPages(t, b.room(), b.want)
			}
		}
		b.emptied()
	}
}

// P15.3: in a room without a free page Remove, and Delete of a bucket that is Off, are done also where the chunks' log has just no room for one entry more, and its map has to have more pages for one than the version gives back.
func TestFullRoomAndFullLog(t *testing.T) {
	b := ready(t, 100)
	b.lazy = true
	says(t, b.put("abc", "k", drawnText(1, 200), 1), api.OK)
	b.merge(math.MaxInt)
	b.leave(0)
	one := b.want.versions[1].refs[:1]
	for full, by := 0, 1; full < 9; {
		e := b.store().Add(one[0].ID, by)
		if e == api.OK {
			by = -by
			b.want.hand = one[:(1-by)/2]
			continue
		}
		says(t, e, api.ErrFull)
		full++
		for _, call := range []func() api.Errno{
			func() api.Errno { return b.remove("abc", "k", 1) },
			func() api.Errno { return b.delete("abc", "k", 2) },
		} {
			was, mark := b.want.copied(), b.room().Mark()
			says(t, call(), api.OK)
			checkChunks(t, b.room(), b.want)
			checkPages(t, b.room(), b.want)
			b.room().Back(mark)
			b.want = was
		}
		b.leave(b.needs(nil, func() (api.Version, api.Errno) { return api.Version{}, b.store().Add(one[0].ID, by) }))
	}
}

// P15.1: in a room without a free page a Put that gives up as many pages as it takes is done; the room stays full.
func TestReplaceInFullRoom(t *testing.T) {
	for _, state := range []int{0, 2} {
		b := ready(t, 250)
		b.set("abc", state)
		says(t, b.put("abc", "k", texts()[5], 1), api.OK)
		refs := b.built(texts()[6])
		b.leave(0)
		_, e := b.putRefs("abc", "k", refs, 2)
		says(t, e, api.OK)
		refs = b.built(texts()[8])
		b.leave(0)
		_, e = b.putRefs("abc", "k", refs, 3)
		says(t, e, api.ErrFull)
		b.want.hand = nil
		says(t, recipe.Drop(b.store(), refs), api.OK)
		b.check()
		says(t, b.delete("abc", "k", 4), api.OK)
	}
}

// P15.1: in rooms of few pages: a bucket takes one, and what is left of them is enough for a version, or it isn't.
func TestSmallRooms(t *testing.T) {
	for pages := range 9 {
		for state := range 3 {
			b := laid(t, pages)
			b.set("abc", state)
			for k := range 20 {
				b.lazy = k%4 > 0
				b.put("abc", someItems()[k%3], strings.Repeat("x", k%3), 1)
				b.delete("abc", someItems()[k%4], 2)
				_, e := b.putRefs("abc", "j", nil, 3)
				if pages < 2 && e == api.OK || pages > 4 && k == 0 && e != api.OK {
					t.Fatalf("%d pages: %d", pages, e)
				}
			}
			b.emptied()
		}
	}
}

// P15.1, and P5.2 through it: versions are there, behind Open, as their last Commit left them, or as the one that was broken off would have, whatever the fall keeps.
func TestBrokenCommit(t *testing.T) {
	for _, keep := range []string{"nothing", "all", "some"} {
		for fuel, done := 0, false; !done; fuel++ {
			b := ready(t, 60)
			b.lazy = true
			for k, s := range []string{"abc", "abcd", "abb"} {
				b.put(s, "k", texts()[k+3], 1)
			}
			b.commit()
			b.put("abc", "k", "other", 1)
			b.delete("abcd", "k", 2)
			b.delete("abb", "k", 3)
			b.put("abcd", "kk", texts()[6], 4)
			b.disk.Fuel(fuel)
			done = b.change().Commit() == api.OK
			b.disk.Fuel(-1)
			var list []bool
			for k := range b.disk.Loose() {
				list = append(list, keep == "all" || keep == "some" && k%2 == fuel%2)
			}
			b.disk.Fall(list)
			l, e := wal.Open(b.disk, ring)
			says(t, e, api.OK)
			last, e := room.Of(tx.Begin(l)).Root(5)
			says(t, e, api.OK)
			if last == b.want.last {
				b.firm = b.want
			} else if done {
				t.Fatal("what was committed isn't there")
			}
			b.lazy = false
			b.reopen()
		}
	}
}

// broken: rooms of 50 pages with versions of each kind.
func broken(t *testing.T) *bench {
	t.Helper()
	b := laid(t, 50)
	for k, s := range someBuckets()[:3] {
		b.set(s, 1)
		for _, item := range someItems()[:3] {
			says(t, b.put(s, item, texts()[k+3], 1), api.OK)
			says(t, b.delete(s, item, 2), api.OK)
		}
		b.set(s, k)
		says(t, b.put(s, "k", texts()[k], 3), api.OK)
		says(t, b.delete(s, "j", 3), api.OK)
	}
	b.merge(20)
	b.commit()
	return b
}

// agree: that all calls of the room end, whatever stands in it, and that what is refused has changed nothing, and tells nothing; all is taken back.
func (b *bench) agree() {
	b.t.Helper()
	r, was := b.room(), b.now()
	see := func(told bool, e api.Errno) {
		b.t.Helper()
		if told && e != api.OK || !slices.Contains([]api.Errno{api.OK, api.ErrLost, api.ErrFull, api.NoBucket, api.NoKey, api.NoVersion}, e) {
			b.t.Fatalf("refused by %d; something is told: %v", e, told)
		}
		if now := b.now(); e != api.OK && (now.mark != was.mark || !slices.Equal(now.homes, was.homes)) {
			b.t.Fatal("what was refused has changed something")
		}
		b.change().Back(was.mark)
	}
	for _, s := range someBuckets()[:3] {
		for _, item := range someItems()[:3] {
			all, e := version.All(r, s, item)
			see(len(all) > 0, e)
			for _, v := range all {
				refs, e := version.Refs(r, v)
				see(len(refs) > 0, e)
			}
			for _, id := range []uint64{0, 1, 3, 7} {
				found, e := version.Find(r, s, item, id)
				see(found != api.Version{}, e)
				see(false, version.Remove(r, b.store(), s, item, id))
			}
			v, e := version.Put(r, b.store(), s, item, b.want.versions[1].refs, 1)
			see(v != api.Version{}, e)
			v, e = version.Delete(r, b.store(), s, item, 1)
			see(v != api.Version{}, e)
		}
	}
	n, e := version.Number(r)
	see(n != 0, e)
}

// P0, P15.1: rooms of which a page is free, or holds noughts or something else, or what another one does, or whose numbers of the maps are others: each call ends, and what is refused changes nothing.
func TestBrokenRooms(t *testing.T) {
	b := broken(t)
	b.lazy = true
	r := b.room()
	for page := range 50 {
		mark := r.Mark()
		held, e := r.Read(page)
		if e != api.OK {
			continue
		}
		says(t, r.Free(page), api.OK)
		b.agree()
		r.Back(mark)
		for _, s := range []string{"", "n", strings.Repeat("l", 512), held[:40] + "x" + held[41:], held[:5] + "x" + held[6:]} {
			says(t, r.Write(page, s), api.OK)
			b.agree()
			r.Back(mark)
		}
		for other := range 50 {
			if s, e := r.Read(other); e == api.OK && (page+other)%3 == 0 {
				says(t, r.Write(page, s), api.OK)
				b.agree()
				r.Back(mark)
			}
		}
	}
	for _, place := range []int{0, 1, 2, 4, 5} {
		for _, n := range []uint64{0, 1, 2, 7, 51, 1 << 16, 1 << 32, math.MaxUint64} {
			mark := r.Mark()
			says(t, r.SetRoot(place, n), api.OK)
			b.agree()
			r.Back(mark)
		}
	}
	b.lazy = false
	b.check()
}

// P0, P15.1: where a version's recipe should begin there is none, or another one, or another page: it is lost, by Refs and by what would give it up, and nothing has changed; Find and All tell of it still.
func TestLostRecipes(t *testing.T) {
	b := ready(t, 60)
	says(t, b.put("abc", "k", texts()[5], 1), api.OK)
	r, s := b.room(), b.store()
	v, e := version.Find(r, "abc", "k", 0)
	says(t, e, api.OK)
	right, e := blob.Get(r, v.Page)
	says(t, e, api.OK)
	texts := []string{"", "x", right[1:], right + "x", right[:len(right)-34], right + right[:34], right[:33] + "\x00" + right[34:], right[:33] + "\x81" + right[34:], strings.Repeat("n", 33) + "\x05", strings.Repeat("\x01", 34*4)}
	lost := func() {
		t.Helper()
		was := b.now()
		refs, e := version.Refs(r, v)
		lists(t, refs, e, nil, api.ErrLost)
		found, e := version.Find(r, "abc", "k", 0)
		tells(t, found, e, v, api.OK)
		all, e := version.All(r, "abc", "k")
		lists(t, all, e, []api.Version{v}, api.OK)
		found, e = version.Put(r, s, "abc", "k", nil, 1)
		tells(t, found, e, api.Version{}, api.ErrLost)
		found, e = version.Delete(r, s, "abc", "k", 1)
		tells(t, found, e, api.Version{}, api.ErrLost)
		says(t, version.Remove(r, s, "abc", "k", v.ID), api.ErrLost)
		if now := b.now(); now.mark != was.mark || !slices.Equal(now.homes, was.homes) {
			t.Fatal("what was refused has changed something")
		}
	}
	mark := r.Mark()
	for _, text := range texts {
		says(t, blob.Drop(r, v.Page), api.OK)
		page, e := blob.Put(r, text)
		tells(t, page, e, v.Page, api.OK)
		lost()
		r.Back(mark)
	}
	says(t, blob.Drop(r, v.Page), api.OK)
	lost()
	r.Back(mark)
	says(t, r.Write(v.Page, right), api.OK)
	lost()
	r.Back(mark)
	b.check()
}

// P0, P15.1: what stands at a version's key is another one: drawn, too short, too long, with another byte at each place. It is lost by each call that meets it, and nothing has changed, or a version of another kind, Born, Size or Page; of other items nothing has changed.
func TestDrawnValues(t *testing.T) {
	b, source := broken(t), rand.New(rand.NewSource(4))
	r, s, m, lost, found := b.room(), b.store(), tree.At(b.room(), 4), 0, 0
	written := map[api.Version]string{}
	try := func(v api.Version, val string) {
		t.Helper()
		mark := r.Mark()
		says(t, m.Put(name.VersionKey(v.Bucket, v.Key, v.ID), val), api.OK)
		was := b.now()
		if all, e := version.All(r, v.Bucket, v.Key); e == api.OK {
			found++
			at := slices.IndexFunc(all, func(x api.Version) bool { return x.ID == v.ID })
			if x := all[at]; x.Marker && (x.Size != 0 || x.Page != 0) || x.Size < 0 || x.Size > 4000*128 || x.Page < 0 || x.Page >= 65536 {
				t.Fatalf("%q is %s", val, shown(x))
			}
			if other, there := written[all[at]]; there && other != val {
				t.Fatalf("%q and %q are one version", val, other)
			}
			written[all[at]] = val
			x, e := version.Find(r, v.Bucket, v.Key, v.ID)
			want, none := all[at], api.OK
			if want.Marker {
				want, none = api.Version{}, api.NoKey
			}
			tells(t, x, e, want, none)
			refs, e := version.Refs(r, all[at])
			if e != api.OK {
				lists(t, refs, e, nil, api.ErrLost)
				says(t, version.Remove(r, s, v.Bucket, v.Key, v.ID), api.ErrLost)
			} else if sizeOf(refs) != all[at].Size {
				t.Fatalf("%d bytes, not %d", sizeOf(refs), all[at].Size)
			}
		} else {
			lost++
			lists(t, all, e, nil, api.ErrLost)
			x, e := version.Find(r, v.Bucket, v.Key, v.ID)
			tells(t, x, e, api.Version{}, api.ErrLost)
			refs, e := version.Refs(r, v)
			lists(t, refs, e, nil, api.ErrLost)
			says(t, version.Remove(r, s, v.Bucket, v.Key, v.ID), api.ErrLost)
			if b.want.states[v.Bucket] != 1 {
				x, e = version.Put(r, s, v.Bucket, v.Key, nil, 1)
				tells(t, x, e, api.Version{}, api.ErrLost)
				x, e = version.Delete(r, s, v.Bucket, v.Key, 1)
				tells(t, x, e, api.Version{}, api.ErrLost)
			}
			if now := b.now(); now.mark != was.mark || !slices.Equal(now.homes, was.homes) {
				t.Fatal("what was refused has changed something")
			}
		}
		checkItem(t, r, b.want, v.Bucket, "l")
		checkItem(t, r, b.want, "abb", "kk")
		r.Back(mark)
	}
	for _, v := range []api.Version{b.want.all("abc", "k")[0], b.want.all("abcd", "k")[0], b.want.all("abcd", "j")[0], b.want.all("abb", "j")[0]} {
		held, _, e := m.Get(name.VersionKey(v.Bucket, v.Key, v.ID))
		says(t, e, api.OK)
		for at := range held {
			try(v, held[:at])
			for _, c := range []byte{0, 1, 2, 3, 4, 5, 128, 255} {
				try(v, held[:at]+string([]byte{c})+held[at+1:])
			}
		}
		try(v, held+"\x00")
		try(v, held+"x")
		for range 60 {
			val := make([]byte, source.Intn(57))
			source.Read(val)
			try(v, string(val))
		}
	}
	if lost < 300 || found < 100 {
		t.Fatalf("%d lost, %d found", lost, found)
	}
	b.check()
}

// P15.1: where somebody else has put what is no version's key among an item's, it is lost by what looks at all of them; keys just ahead of all, and just behind them, don't matter.
func TestForeignKeys(t *testing.T) {
	b := broken(t)
	r, m := b.room(), tree.At(b.room(), 4)
	held, _, e := m.Get(name.VersionKey("abcd", "k", b.want.all("abcd", "k")[0].ID))
	says(t, e, api.OK)
	for _, behind := range []string{"", "1234567", "123456789", "\x00", strings.Repeat("\xff", 9)} {
		mark := b.mark()
		says(t, m.Put(name.Under('v', "abcd", "k")+behind, held), api.OK)
		all, e := version.All(r, "abcd", "k")
		lists(t, all, e, nil, api.ErrLost)
		for _, v := range b.want.all("abcd", "k") {
			_, want := b.want.find("abcd", "k", v.ID)
			_, e := version.Find(r, "abcd", "k", v.ID)
			says(t, e, want)
		}
		checkItem(t, r, b.want, "abcd", "kk")
		b.back(mark)
	}
	for _, key := range []string{"vabcd\x00k", "vabcd\x00k\x01", "vabcd\x00k\x01\x00", "vabcd\x00", "uabcd\x00k\x0012345678", "Vabcd\x00k\x0012345678"} {
		mark := b.mark()
		says(t, m.Put(key, held), api.OK)
		checkItem(t, r, b.want, "abcd", "k")
		b.back(mark)
	}
}

// greatRoom: one of as many pages as a disk may have.
func greatRoom(t *testing.T) *room.Room {
	t.Helper()
	d, e := sector.New(api.MaxSectors)
	says(t, e, api.OK)
	l, e := wal.Open(d, 4)
	says(t, e, api.OK)
	return room.Of(tx.Begin(l))
}

// P0: in a room as great as a disk may be, with many items, and with many versions of one of them, all ends soon, whatever a name's length, and however many refs there are.
func TestEndsSoon(t *testing.T) {
	start, r := time.Now(), greatRoom(t)
	s := chunks.At(r)
	for k, state := range []int{0, 1, 2} {
		says(t, bucket.Restore(r, api.Bucket{Name: someBuckets()[k], State: state}), api.OK)
	}
	for k := range 15000 {
		_, e := version.Put(r, s, "abcd", fmt.Sprint(k), nil, 1)
		says(t, e, api.OK)
	}
	for range 3000 {
		_, e := version.Put(r, s, "abcd", "k", nil, 1)
		says(t, e, api.OK)
	}
	for range 50 {
		all, e := version.All(r, "abcd", "k")
		tells(t, len(all), e, 3000, api.OK)
	}
	for k := range 5000 {
		_, e := version.Find(r, "abcd", fmt.Sprint(k), 0)
		says(t, e, api.OK)
		says(t, version.Remove(r, s, "abcd", fmt.Sprint(k), uint64(k+1)), api.OK)
	}
	says(t, bucket.SetState(r, "abcd", 2), api.OK)
	for range 50 {
		_, e := version.Put(r, s, "abcd", "k", ghosts(0), 1)
		says(t, e, api.OK)
	}
	huge := strings.Repeat("a", 1<<28)
	says(t, version.Remove(r, s, huge, huge, 1), api.BadName)
	says(t, version.Remove(r, s, "abcd", huge, 1), api.BadName)
	refs, e := version.Refs(r, api.Version{Bucket: huge, Key: huge})
	lists(t, refs, e, nil, api.ErrLost)
	_, e = version.Put(r, s, "abcd", "k", make([]api.Ref, 1<<24), 1)
	says(t, e, api.ErrArg)
	if took := time.Since(start); took > time.Minute {
		t.Errorf("%v", took)
	}
}
