package recipe_test

import (
	"math"
	"math/rand"
	"slices"
	"strings"
	"testing"
	"time"

	"cooperage/api"
	"cooperage/chunks"
	"cooperage/recipe"
)

// drawnRef: mostly one that a recipe may have; one of so many has a name or a Len that isn't right.
func drawnRef(source *rand.Rand, wrong int) api.Ref {
	if source.Intn(wrong) == 0 {
		list := wrongRefs()
		return list[source.Intn(len(list))]
	}
	return api.Ref{ID: someText(source, 33), Len: 1 + source.Intn(128)}
}

// drawnPlace: mostly one in a text of so many bytes, or a little ahead of it or behind it.
func drawnPlace(source *rand.Rand, size int) int {
	if source.Intn(10) == 0 {
		list := extremes(size)
		return list[source.Intn(len(list))]
	}
	return source.Intn(size+7) - 3
}

// drawnText: of blocks that come again and again; now and then one at the edges, or one that no other is like.
func drawnText(source *rand.Rand) string {
	switch source.Intn(8) {
	case 0:
		return []string{"", "x", zeros(15), zeros(16), zeros(17), uncut(128), uncut(129)}[source.Intn(7)]
	case 1:
		return someText(source, source.Intn(400))
	}
	var text strings.Builder
	for range 1 + source.Intn(4) {
		text.WriteString(drawn(source.Intn(5), 50+source.Intn(2)*90))
	}
	return text.String()
}

// drawnRefs: of one of the texts that were built, of two, or of a piece of one; now and then with a ref that isn't right, or whose chunk isn't there.
func drawnRefs(source *rand.Rand, built [][]api.Ref) []api.Ref {
	refs := slices.Clone(built[source.Intn(len(built))])
	switch source.Intn(10) {
	case 0:
		refs = append(refs, built[source.Intn(len(built))]...)
	case 1:
		from := source.Intn(len(refs) + 1)
		refs = refs[from : from+source.Intn(len(refs)-from+1)]
	case 2:
		refs = slices.Insert(refs, source.Intn(len(refs)+1), drawnRef(source, 3))
	case 3:
		for k := range refs {
			if source.Intn(8) == 0 {
				refs[k].Len = 1 + source.Intn(128)
			}
		}
	}
	return refs
}

// act: a drawn call; the texts that were built come back with one more, if it built one.
func (b *bench) act(source *rand.Rand, built [][]api.Ref) [][]api.Ref {
	b.t.Helper()
	refs := drawnRefs(source, built)
	switch source.Intn(20) {
	case 0, 1, 2, 3:
		if refs, e := b.build(drawnText(source)); e == api.OK {
			built = append(built, refs)
		}
	case 4, 5:
		b.keep(drawnText(source))
	case 6, 7:
		b.take(refs)
	case 8, 9, 10:
		b.release(refs)
	case 11, 12:
		b.drop(refs)
	case 13, 14:
		for range 5 {
			size := sizeOf(refs)
			b.look(refs, drawnPlace(source, size), drawnPlace(source, size))
		}
		b.whole(refs)
	case 15:
		b.merge(source.Intn(30) - 1)
	case 16:
		b.reclaim(source.Intn(8) - 1)
	case 17:
		if !b.down {
			b.leave(source.Intn(b.room.Pages() + 1))
		}
	case 18:
		list := append([]marked{{math.MaxInt, nil}}, b.marks...)
		if source.Intn(2) == 0 {
			b.mark()
		} else {
			b.back(list[source.Intn(len(list))].mark)
		}
	case 19:
		if !b.down && source.Intn(2) == 0 {
			b.commit()
		}
	}
	return built
}

// P12.1, P12.2: drawn texts built, told in parts, taken, released and dropped, in any order, in rooms of few pages and of many, to the log's going down, behind it, and when it is opened again.
func TestDrawnActs(t *testing.T) {
	for _, pages := range []int{0, 1, 3, 12, 40, 120} {
		for seed := range 5 {
			source := rand.New(rand.NewSource(int64(seed)))
			b, built := laid(t, pages), [][]api.Ref{nil}
			for range 250 {
				built = b.act(source, built)
			}
			b.bringDown()
			for range 20 {
				built = b.act(source, built)
			}
			b.reopen()
			for range 20 {
				built = b.act(source, built)
			}
			b.rest()
			for _, refs := range built {
				b.whole(refs)
			}
		}
	}
}

// P12.1: drawn texts, each taken and released so often that nothing is counted in the end: then nothing is kept.
func TestDrawnCounts(t *testing.T) {
	for seed := range 6 {
		source := rand.New(rand.NewSource(int64(seed)))
		b := laid(t, 300)
		b.lazy = true
		var owed [][]api.Ref
		for range 150 {
			switch k := source.Intn(3); {
			case len(owed) > 0 && k == 0:
				at := source.Intn(len(owed))
				says(t, b.take(owed[at]), api.OK)
				owed = append(owed, owed[at])
			case len(owed) > 0 && k == 1:
				at := source.Intn(len(owed))
				says(t, b.release(owed[at]), api.OK)
				owed = slices.Delete(owed, at, at+1)
			default:
				refs, e := b.build(drawnText(source))
				says(t, e, api.OK)
				owed = append(owed, refs)
			}
			b.merge(source.Intn(9))
			b.reclaim(source.Intn(3))
			for _, refs := range owed {
				b.whole(refs)
			}
		}
		for len(owed) > 0 {
			_, e := b.drop(owed[0])
			says(t, e, api.OK)
			owed = owed[1:]
		}
		b.lazy = false
		b.rest()
		used, e := b.room.Used()
		tells(t, used, e, 0, api.OK)
	}
}

// P12.1, Right, Write, Read, Size: drawn refs, of which many are recipes.
func TestDrawnRefs(t *testing.T) {
	source := rand.New(rand.NewSource(1))
	for range 4000 {
		var refs []api.Ref
		for range source.Intn(12) {
			refs = append(refs, drawnRef(source, 30))
		}
		forms(t, refs)
	}
}

// P12.1, Read, Write: drawn bytes, of which many are a recipe's.
func TestDrawnBytes(t *testing.T) {
	source, right := rand.New(rand.NewSource(2)), 0
	for range 6000 {
		text := []byte(someText(source, 34*source.Intn(6)+source.Intn(2)*source.Intn(34)))
		for k := 33; k < len(text) && source.Intn(4) > 0; k += 34 {
			text[k] %= 130
		}
		if _, ok := readOf(string(text)); ok {
			right++
		}
		readings(t, string(text))
	}
	if right < 1000 || right > 5000 {
		t.Fatalf("%d of 6000 are recipes", right)
	}
}

// places: how often it came that there was no room, by how many of the chunks' own calls were done ahead.
type places map[int]int

// phases: with so many entries, one by one, a log comes to want a page at each place of a recipe.
const phases = 150

// loaded: a store of 60 pages that has a text's chunks, each counted once, and so many entries of another chunk in its log.
func loaded(t *testing.T, text string, entries int) *bench {
	t.Helper()
	b := laid(t, 60)
	b.lazy = true
	b.build(text)
	says(t, b.keep("another"), api.OK)
	b.merge(math.MaxInt)
	for range entries {
		says(t, b.keep("another"), api.OK)
	}
	b.lazy = false
	b.commit()
	return b
}

// P12.1, ErrFull: Keep, with no free page and with one more each time, till there is room: refused at Put, and at Add, it leaves no chunk behind.
func TestKeepInLittleRoom(t *testing.T) {
	for _, text := range []string{"new", "there"} {
		came := places{}
		for entries := range phases {
			b := loaded(t, "there", entries)
			for free, e := 0, api.ErrFull; e == api.ErrFull; free++ {
				b.leave(free)
				at, want := b.inSteps(b.keeping([]string{text}))
				e = b.keep(text)
				says(t, e, want)
				if e == api.ErrFull {
					came[at]++
				}
			}
		}
		if text == "new" && came[0] < phases || text == "there" && came[0] > 0 || came[1] < 2 {
			t.Fatalf("%s: where it came: %v", text, came)
		}
	}
}

// P12.1, ErrFull: Build, with no free page and with one more each time, till there is room, of a log that has more and more entries: at whichever chunk it comes, at its Put or its Add, nothing has changed.
func TestBuildInLittleRoom(t *testing.T) {
	came, text := places{}, drawn(12, 250)
	for _, kept := range []string{"", text[:100], text} {
		for entries := range phases {
			b := loaded(t, kept, entries)
			for free, e := 0, api.ErrFull; e == api.ErrFull; free++ {
				b.leave(free)
				at, _ := b.ofBuild(text)
				_, e = b.build(text)
				if e == api.ErrFull {
					came[at]++
				}
			}
		}
	}
	if n := len(refsOf(text)); n < 6 || len(came) != 2*n {
		t.Errorf("of %d chunks, twice as many calls: where it came: %v", n, came)
	}
}

// P12.1, ErrFull: Take and Release in a room without a free page, of a log that has more and more entries: at whichever chunk it comes, nothing has changed; Drop is done there all the same, with those chunks' counts one less at once for which the log has no room.
func TestChangesInFullRoom(t *testing.T) {
	text := drawn(13, 500) + zeros(64)
	refs := refsOf(text)
	came, applied := places{}, places{}
	for entries := range phases {
		b := loaded(t, text, entries)
		b.leave(0)
		at, want := b.ofChange(refs, b.adding(refs, 1))
		mark := b.mark()
		says(t, b.take(refs), want)
		b.back(mark)
		says(t, b.release(refs), want)
		b.back(mark)
		if want == api.ErrFull {
			came[at]++
		}
		n, e := b.drop(refs)
		says(t, e, api.OK)
		applied[n]++
		b.whole(refs)
		b.leave(9)
		says(t, b.take(refs), api.OK)
		b.rest()
	}
	for at := range refs {
		if came[at] == 0 || applied[at] == 0 {
			t.Errorf("it came never at chunk %d, %v, or Drop found room never for all but so many, %v", at, came, applied)
		}
	}
	if applied[len(refs)] == 0 {
		t.Errorf("Drop found room always: %v", applied)
	}
}

// P12.1, Drop: in a room without a free page, of a recipe of which a chunk isn't there: nothing has changed, however many counts were one less already.
func TestDropOfLostInFullRoom(t *testing.T) {
	text := drawn(14, 300) + zeros(48)
	refs := refsOf(text)
	for _, entries := range []int{0, 125, 137, 140, 143, 149} {
		b := loaded(t, text, entries)
		b.leave(0)
		for k := range len(refs) + 1 {
			_, e := b.drop(slices.Insert(slices.Clone(refs), k, api.Ref{ID: named("x"), Len: 5}))
			says(t, e, api.ErrLost)
		}
		_, e := b.drop(refs)
		says(t, e, api.OK)
	}
}

// P12.1, ErrFull: Take and Release with one free page more each time, till there is room, of a recipe that fills pages of the log.
func TestChangesInLittleRoom(t *testing.T) {
	text := zeros(16 * 900)
	refs := refsOf(text)
	for _, take := range []bool{true, false} {
		b := loaded(t, zeros(16), 0)
		full := 0
		for free, e := 0, api.ErrFull; e == api.ErrFull; free++ {
			b.leave(free)
			if take {
				e = b.take(refs)
			} else {
				e = b.release(refs)
			}
			full++
		}
		if full < 5 {
			t.Fatalf("refused but %d times", full)
		}
		b.leave(2)
		n, e := b.drop(refs)
		says(t, e, api.OK)
		if n == 0 || n == len(refs) {
			t.Fatalf("the log had room for all of them, or for none: %d", n)
		}
		b.rest()
	}
}

// agree: that all calls of the store end, whatever stands in its room, and come to what the chunks' own calls do; all is taken back.
func (b *bench) agree(text string) {
	b.t.Helper()
	refs, was := refsOf(text), b.now()
	see := func(call string, e, want api.Errno) {
		b.t.Helper()
		if e != want {
			b.t.Fatalf("%s: %d, not %d", call, e, want)
		}
		if now := b.now(); e != api.OK && (now.mark != was.mark || !slices.Equal(now.homes, was.homes)) {
			b.t.Fatalf("%s was refused, and has changed something", call)
		}
		b.change.Back(was.mark)
	}
	_, want := b.ofBuild(text)
	got, e := recipe.Build(b.store, text)
	if (e == api.OK) != (len(got) > 0) {
		b.t.Fatalf("%d refs beside %d", len(got), e)
	}
	see("Build", e, want)
	_, want = b.inSteps(b.keeping([]string{text[:40]}))
	ref, e := recipe.Keep(b.store, text[:40])
	if (e == api.OK) != (ref != api.Ref{}) {
		b.t.Fatalf("%s beside %d", shown(ref), e)
	}
	see("Keep", e, want)
	_, want = b.ofChange(refs, b.adding(refs, 1))
	see("Take", recipe.Take(b.store, refs), want)
	_, want = b.ofChange(refs, b.adding(refs, -1))
	see("Release", recipe.Release(b.store, refs), want)
	if e = recipe.Drop(b.store, refs); want != api.ErrFull {
		see("Drop", e, want)
	}
	b.change.Back(was.mark)
	wantText, want := "", api.OK
	for _, ref := range refs {
		held, e := b.store.Get(ref.ID)
		if want == api.OK && (e != api.OK || len(held) != ref.Len) {
			want = api.ErrLost
		}
		wantText += held
	}
	said, e := recipe.Bytes(b.store, refs, 0, math.MaxInt)
	if e == api.OK && said != wantText {
		b.t.Fatalf("%.200q, not %.200q", said, wantText)
	}
	see("Bytes", e, want)
}

// P0, P12.1: stores of which a page is free, or holds noughts or something else, or what another one does: each call ends, comes to what the chunks' own calls do, and what is refused changes nothing.
func TestBrokenStores(t *testing.T) {
	b := laid(t, 30)
	text := drawn(15, 300) + zeros(32)
	refs, e := b.build(text)
	says(t, e, api.OK)
	says(t, b.take(refs), api.OK)
	b.merge(len(refs))
	b.commit()
	b.lazy = false
	lost := 0
	for page := range 30 {
		held, e := b.room.Read(page)
		if e != api.OK {
			continue
		}
		mark := b.room.Mark()
		says(t, b.room.Free(page), api.OK)
		if _, e := recipe.Build(b.store, text); e == api.ErrLost {
			lost++
		}
		b.room.Back(mark)
		says(t, b.room.Free(page), api.OK)
		b.agree(text)
		b.room.Back(mark)
		for _, s := range []string{"", "n", strings.Repeat("l", 512), held[:20] + "x" + held[21:]} {
			says(t, b.room.Write(page, s), api.OK)
			b.agree(text)
			b.room.Back(mark)
		}
		for other := range 30 {
			if s, e := b.room.Read(other); e == api.OK {
				says(t, b.room.Write(page, s), api.OK)
				b.agree(text)
				b.room.Back(mark)
			}
		}
	}
	if lost < len(refs)/2 {
		t.Fatalf("few pages were missed: %d", lost)
	}
	b.check()
}

// P0: recipes of as many chunks as there may be, built, told, taken, released and dropped: all ends soon, whatever a text's or a list's length.
func TestEndsSoon(t *testing.T) {
	start := time.Now()
	b := laid(t, 12000)
	text := drawn(16, 100000)
	refs, e := recipe.Build(b.store, text)
	says(t, e, api.OK)
	for range 3 {
		said, e := recipe.Bytes(b.store, refs, 0, len(text))
		tells(t, said, e, text, api.OK)
		says(t, recipe.Take(b.store, refs), api.OK)
		says(t, recipe.Release(b.store, refs), api.OK)
		says(t, recipe.Drop(b.store, refs), api.OK)
	}
	_, e = recipe.Build(b.store, zeros(1<<28))
	says(t, e, api.ErrBig)
	many := make([]api.Ref, 1<<22)
	says(t, recipe.Take(b.store, many), api.ErrArg)
	if _, ok := recipe.Read(zeros(1 << 28)); ok {
		t.Error("so many bytes are a recipe's")
	}
	for _, call := range []func(*chunks.Store, []api.Ref) api.Errno{recipe.Take, recipe.Release, recipe.Drop} {
		says(t, call(b.store, refs), api.OK)
	}
	if took := time.Since(start); took > time.Minute {
		t.Errorf("%v", took)
	}
}
