package blob_test

import (
	"math"
	"math/rand"
	"slices"
	"strings"
	"testing"
	"unsafe"

	"cooperage/api"
	"cooperage/blob"
	"cooperage/room"
	"cooperage/tx"
	"cooperage/wal"
)

// tooLong: a byte more than a blob may have.
var tooLong = strings.Repeat("l", 131073)

// lengths: of texts, at the edges of one page, of two, and of the greatest blob.
var lengths = []int{0, 1, 2, 255, 256, 505, 506, 507, 511, 512, 513, 1011, 1012, 1013, 1518, 1519, 65535, 65536, 65537, 131071, 131072}

// P8.1, Pages: of each number, the least one that the document's words allow.
func TestPagesOfEachNumber(t *testing.T) {
	want := 1
	for n := range 1 << 20 {
		if want*506 < n {
			want++
		}
		if got := blob.Pages(n); got != want {
			t.Fatalf("%d bytes: %d, not %d", n, got, want)
		}
	}
}

// P8.1, Pages: at the edges that the document names, in numbers.
func TestPagesAtEdges(t *testing.T) {
	for n, want := range map[int]int{
		math.MinInt: 1, math.MinInt + 1: 1, math.MinInt32: 1, -507: 1, -506: 1, -1: 1,
		0: 1, 1: 1, 505: 1, 506: 1, 507: 2, 1011: 2, 1012: 2, 1013: 3, 1 << 17: 260, 1<<17 + 1: 260,
		506 * 260: 260, 506*260 + 1: 261, 506 << 40: 1 << 40, 506<<40 + 1: 1<<40 + 1,
		math.MaxInt: 18228007977973866, math.MaxInt - 1: 18228007977973866,
	} {
		if got := blob.Pages(n); got != want {
			t.Errorf("%d bytes: %d, not %d", n, got, want)
		}
	}
}

// P8.1, Put, Get and List: texts of each length, of letters, of noughts, of bytes of any kind, in a room of theirs, and all of them in one, through a Commit and a fall.
func TestTextsOfEachLength(t *testing.T) {
	source := rand.New(rand.NewSource(1))
	all := laid(t, 4000, 1)
	for _, n := range lengths {
		for _, s := range []string{strings.Repeat("t", n), strings.Repeat("\x00", n), strings.Repeat("\xff", n), drawnText(source, n)} {
			b := laid(t, needs(n)+2, 1)
			page := b.put(0, s)
			b.put(0, tooLong)
			b.commit()
			b.reopen()
			text, e := blob.Get(b.rooms[0], page)
			tells(t, text, e, s, api.OK)
			b.drop(0, page)
		}
		all.put(0, drawnText(source, n))
		all.commit()
	}
	all.reopen()
	for _, page := range all.want.firsts() {
		all.drop(0, page)
	}
}

// P8.1, Put: each length about those that fill pages just so.
func TestLengthsAboutFullPages(t *testing.T) {
	source := rand.New(rand.NewSource(2))
	b := laid(t, 9, 1)
	for full := 0; full <= 4*506; full += 506 {
		for n := max(0, full-8); n <= full+8; n++ {
			page := b.put(0, drawnText(source, n))
			used, e := b.rooms[0].Used()
			tells(t, used, e, needs(n), api.OK)
			b.drop(0, page)
		}
	}
}

// P8.1: whatever a text says, it is got: of words that a blob's own pages hold, and of whole pages of other blobs.
func TestTextsLikePages(t *testing.T) {
	b := laid(t, 40, 1)
	page := b.put(0, strings.Repeat("like ", 300))
	for _, p := range b.want.blobs[page].pages {
		s, e := b.rooms[0].Read(p)
		says(t, e, api.OK)
		b.put(0, s)
		b.put(0, s[:506])
		b.put(0, s+s)
		b.put(0, strings.Repeat("x", 506)+s)
	}
	b.commit()
	for _, page := range b.want.firsts() {
		b.drop(0, page)
	}
}

// P8.1, Put: in a room with just as many free pages as are needed, with one more, with one less, and with none; then nothing has changed.
func TestPutInLittleRoom(t *testing.T) {
	for _, n := range []int{0, 1, 506, 507, 1012, 1013, 5060, 5061, 131072} {
		need := needs(n)
		for _, free := range []int{need, need + 1, need - 1, need / 2, 1, 0} {
			b := laid(t, need+3, 1)
			b.put(0, "there")
			for b.want.free(t) > free {
				b.take("other")
			}
			b.commit()
			text := strings.Repeat("f", n)
			page := b.put(0, text)
			b.put(0, tooLong)
			if free < need {
				b.put(0, text)
				continue
			}
			b.put(0, text)
			b.drop(0, page)
			b.put(0, text)
		}
	}
}

// P8.1, Put: in a room without a page.
func TestPutInNoRoom(t *testing.T) {
	b := laid(t, 0, 1)
	for _, s := range []string{"", "a", tooLong} {
		b.put(0, s)
	}
	for _, page := range b.edges() {
		b.drop(0, page)
	}
}

// P8.1, Put: in free pages that don't stand side by side.
func TestPutInScatteredPages(t *testing.T) {
	for _, every := range []int{2, 3, 7} {
		for seed := range 6 {
			source := rand.New(rand.NewSource(int64(seed)))
			b := laid(t, 60, 1)
			var others []int
			for range b.want.pages {
				others = append(others, b.take("other"))
			}
			source.Shuffle(len(others), func(i, k int) { others[i], others[k] = others[k], others[i] })
			var free []int
			for _, page := range others {
				if seed == 0 && page%every == 0 || seed > 0 && source.Intn(every) == 0 {
					b.giveBack(page)
					free = append(free, page)
				}
			}
			b.commit()
			page := b.put(0, drawnText(source, 506*len(free)))
			b.put(0, "")
			b.commit()
			b.reopen()
			pages := b.want.blobs[page].pages
			if slices.Sort(free); !slices.Equal(slices.Sorted(slices.Values(pages)), free) {
				t.Fatalf("in the pages %v, not %v", pages, free)
			}
			b.drop(0, page)
		}
	}
}

// P8.1, Put: pages that held something else, in this change or in the log, show nothing of it.
func TestPutInUsedPages(t *testing.T) {
	b := laid(t, 6, 1)
	for range 3 {
		page := b.put(0, strings.Repeat("u", 6*506))
		b.commit()
		b.drop(0, page)
		for _, n := range []int{0, 1, 505, 507, 506} {
			b.put(0, strings.Repeat("v", n))
		}
		for _, page := range b.want.firsts() {
			b.drop(0, page)
		}
	}
}

// P8.1, Get, Drop and List: of pages there are and of others: of those behind the last one, of free ones, of a blob's other pages, of one that was taken and never written, and of those of somebody else.
func TestPagesWhereNoBlobBegins(t *testing.T) {
	for _, size := range []int{1, 2, 3, 8, 40} {
		b := laid(t, size, 1)
		refused := func() {
			t.Helper()
			begin := b.want.firsts()
			for _, page := range b.asked() {
				if !slices.Contains(begin, page) {
					b.drop(0, page)
				}
			}
		}
		refused()
		b.take("")
		refused()
		b.takes("other", strings.Repeat("\x00", 512), "\x00\x00\x01", strings.Repeat("\xff", 512), strings.Repeat("a", 512))
		refused()
		if b.want.free(t) < 2 {
			continue
		}
		page := b.put(0, strings.Repeat("b", 506*b.want.free(t)))
		refused()
		b.commit()
		refused()
		b.drop(0, page)
		refused()
	}
}

// takes: pages of somebody else, one for each text, as long as more than two are free.
func (b *bench) takes(texts ...string) {
	b.t.Helper()
	for _, s := range texts {
		if b.want.free(b.t) > 2 {
			b.take(s)
		}
	}
}

// P8.1, Drop: a blob that was dropped isn't there: at once, behind a Commit, and where its page was taken again, by somebody else, or as a second page.
func TestDroppedIsGone(t *testing.T) {
	b := laid(t, 5, 1)
	for range 2 {
		first, second := b.put(0, strings.Repeat("a", 700)), b.put(0, "b")
		b.commit()
		b.drop(0, first)
		b.drop(0, first)
		b.commit()
		b.drop(0, first)
		page := b.take("")
		tells(t, page, api.OK, first, api.OK)
		b.drop(0, first)
		b.drop(0, second)
		b.giveBack(page)
		page = b.put(0, strings.Repeat("c", 5*506))
		for _, p := range b.want.blobs[page].pages[1:] {
			b.drop(0, p)
		}
		b.drop(0, page)
	}
}

// P8.1, List: the numbers of the pages in their order: each holds its part of the text.
func TestListInOrder(t *testing.T) {
	b := laid(t, 30, 1)
	var others []int
	for range 30 {
		others = append(others, b.take("other"))
	}
	for _, page := range []int{29, 3, 17, 4, 0, 22, 9} {
		b.giveBack(others[page])
	}
	for _, n := range []int{3400, 3542, 507, 1} {
		text := drawnText(rand.New(rand.NewSource(int64(n))), n)
		page := b.put(0, text)
		pages, e := blob.List(b.rooms[0], page)
		says(t, e, api.OK)
		for k, p := range pages {
			s, e := b.rooms[0].Read(p)
			says(t, e, api.OK)
			if part := text[506*k : min(n, 506*k+506)]; !strings.Contains(s, part) {
				t.Fatalf("page %d of %v hasn't part %d", p, pages, k)
			}
		}
		b.drop(0, page)
	}
}

// R1: which error comes first where several would fit: ErrDown, then ErrBig, then ErrFull; ErrDown, then ErrRange.
func TestWhichErrorComesFirst(t *testing.T) {
	b := laid(t, 2, 1)
	b.puts(1)
	page, e := blob.Put(b.rooms[0], tooLong)
	tells(t, page, e, 0, api.ErrBig)
	page, e = blob.Put(b.rooms[0], tooLong[:131072])
	tells(t, page, e, 0, api.ErrFull)
	says(t, blob.Drop(b.rooms[0], 2), api.ErrRange)
	says(t, blob.Drop(b.rooms[0], 1), api.ErrLost)
	b.bringDown()
	for _, s := range []string{"", "a", tooLong[:131072], tooLong} {
		page, e := blob.Put(b.rooms[0], s)
		tells(t, page, e, 0, api.ErrDown)
	}
	for _, page := range []int{-1, 0, 1, 2} {
		text, e := blob.Get(b.rooms[0], page)
		tells(t, text, e, "", api.ErrDown)
		says(t, blob.Drop(b.rooms[0], page), api.ErrDown)
		lists(t, b.rooms[0], page, nil, api.ErrDown)
	}
}

// P8.1: step by step, in numbers, beside the model.
func TestStepByStep(t *testing.T) {
	b := laid(t, 4, 1)
	r := b.rooms[0]
	first, e := blob.Put(r, strings.Repeat("a", 506)+"b")
	says(t, e, api.OK)
	second, e := blob.Put(r, "")
	says(t, e, api.OK)
	used, e := r.Used()
	tells(t, used, e, 3, api.OK)
	page, e := blob.Put(r, strings.Repeat("c", 507))
	tells(t, page, e, 0, api.ErrFull)
	third, e := blob.Put(r, strings.Repeat("c", 506))
	says(t, e, api.OK)
	page, e = blob.Put(r, "")
	tells(t, page, e, 0, api.ErrFull)
	text, e := blob.Get(r, first)
	tells(t, text, e, strings.Repeat("a", 506)+"b", api.OK)
	text, e = blob.Get(r, second)
	tells(t, text, e, "", api.OK)
	lists(t, r, second, []int{second}, api.OK)
	lists(t, r, third, []int{third}, api.OK)
	says(t, blob.Drop(r, second), api.OK)
	says(t, blob.Drop(r, second), api.ErrLost)
	text, e = blob.Get(r, second)
	tells(t, text, e, "", api.ErrLost)
	lists(t, r, second, nil, api.ErrLost)
	says(t, blob.Drop(r, first), api.OK)
	used, e = r.Used()
	tells(t, used, e, 1, api.OK)
	text, e = blob.Get(r, third)
	tells(t, text, e, strings.Repeat("c", 506), api.OK)
	says(t, blob.Drop(r, third), api.OK)
	used, e = r.Used()
	tells(t, used, e, 0, api.OK)
}

// P8.1: behind Mark and Back each call's change is gone, and what was there is there.
func TestMarkAndBack(t *testing.T) {
	calls := map[string]func(b *bench){
		"Put":       func(b *bench) { b.put(0, "new"); b.put(1, strings.Repeat("n", 2000)) },
		"Put, full": func(b *bench) { b.put(0, strings.Repeat("n", 40*506)) },
		"Drop":      func(b *bench) { b.dropFirst(0) },
		"Drop all": func(b *bench) {
			for _, page := range b.want.firsts() {
				b.drop(0, page)
			}
		},
		"Drop, Put": func(b *bench) {
			b.dropFirst(1)
			b.put(0, strings.Repeat("n", 1500))
			b.dropFirst(0)
			b.put(0, "")
		},
		"Get, List": func(b *bench) { b.check() },
	}
	for name, call := range calls {
		t.Run(name, func(t *testing.T) {
			b := laid(t, 30, 2)
			b.put(0, strings.Repeat("a", 1200))
			b.commit()
			b.put(1, "in the change")
			b.take("other")
			for range 3 {
				mark, before := b.mark(0), b.allHomes()
				call(b)
				b.back(1, math.MaxInt)
				b.back(0, mark)
				if !slices.Equal(before, b.allHomes()) {
					t.Fatal("homes have changed")
				}
				call(b)
			}
			b.back(0, b.marks[1].mark)
			call(b)
			b.forget()
			call(b)
			b.back(0, -1)
			b.commit()
		})
	}
}

// P8.1: two rooms of one change have the same blobs; those of two changes know nothing of one another ahead of Commit.
func TestRoomsOfTwoChanges(t *testing.T) {
	b := laid(t, 20, 2)
	there := b.put(0, strings.Repeat("t", 1000))
	b.commit()
	other := room.Of(tx.Begin(b.log))
	mine := b.put(1, strings.Repeat("m", 900))
	b.drop(0, there)
	text, e := blob.Get(other, there)
	tells(t, text, e, strings.Repeat("t", 1000), api.OK)
	text, e = blob.Get(other, mine)
	tells(t, text, e, "", api.ErrLost)
	page, e := blob.Put(other, "theirs")
	says(t, e, api.OK)
	text, e = blob.Get(other, page)
	tells(t, text, e, "theirs", api.OK)
	b.check()
	b.commit()
	late := room.Of(tx.Begin(b.log))
	text, e = blob.Get(late, mine)
	tells(t, text, e, strings.Repeat("m", 900), api.OK)
	lists(t, late, there, nil, b.ofPage(there))
}

// P8.1: of a room whose log has gone down each call answers ErrDown; opened again, what was committed is there, and nothing else.
func TestLogThatIsDown(t *testing.T) {
	for _, size := range []int{0, 3, 12} {
		b := laid(t, size, 2)
		if size > 0 {
			b.put(0, "there")
			b.commit()
			b.put(0, "in the change")
		}
		b.bringDown()
		for k := range b.rooms {
			for _, s := range []string{"", "a", strings.Repeat("a", 100*506), tooLong} {
				b.put(k, s)
			}
			for _, page := range b.edges() {
				b.drop(k, page)
			}
		}
		b.back(0, 0)
		late := room.Of(tx.Begin(b.log))
		text, e := blob.Get(late, 0)
		tells(t, text, e, "", api.ErrDown)
		b.reopen()
	}
}

// R2: a nil room, and rooms of changes and logs that are none: ErrDown.
func TestNil(t *testing.T) {
	list := map[string]*room.Room{
		"a nil room":           nil,
		"a zero room":          {},
		"of a nil change":      room.Of(nil),
		"of a zero change":     room.Of(&tx.Tx{}),
		"of one of a nil log":  room.Of(tx.Begin(nil)),
		"of one of a zero log": room.Of(tx.Begin(&wal.Log{})),
	}
	for name, r := range list {
		t.Run(name, func(t *testing.T) {
			for _, s := range []string{"", "a", strings.Repeat("a", 507), tooLong} {
				page, e := blob.Put(r, s)
				tells(t, page, e, 0, api.ErrDown)
			}
			for _, page := range []int{math.MinInt, -1, 0, 1, math.MaxInt} {
				text, e := blob.Get(r, page)
				tells(t, text, e, "", api.ErrDown)
				says(t, blob.Drop(r, page), api.ErrDown)
				lists(t, r, page, nil, api.ErrDown)
			}
		})
	}
}

// R4: what a call hands out or takes is shared with nothing.
func TestSharesNothing(t *testing.T) {
	b := laid(t, 20, 2)
	taken := []byte(strings.Repeat("t", 1600))
	given := unsafe.String(unsafe.SliceData(taken), len(taken))
	for _, n := range []int{1, 505, 506, 507, 1600} {
		page, e := blob.Put(b.rooms[0], given[:n])
		says(t, e, api.OK)
		pages, e := blob.List(b.rooms[0], page)
		says(t, e, api.OK)
		b.want.blobs[page] = kept{strings.Repeat("t", n), slices.Clone(pages)}
	}
	for i := range taken {
		taken[i] = 'x'
	}
	for round := range 3 {
		for _, r := range b.rooms {
			for page, one := range b.want.blobs {
				text, e := blob.Get(r, page)
				tells(t, text, e, one.text, api.OK)
				// The caller's own: whoever could write there would change nobody else's.
				for k := range len(text) {
					*(*byte)(unsafe.Add(unsafe.Pointer(unsafe.StringData(text)), k)) = 'y'
				}
				pages, e := blob.List(r, page)
				says(t, e, api.OK)
				for k := range pages[:cap(pages)] {
					pages[:cap(pages)][k] = -7
				}
			}
			b.check()
		}
		if round == 1 {
			b.commit()
		}
	}
}

// R7: the same calls leave the same homes and tell the same pages, by whichever rooms of the change, and whatever was done and taken back between.
func TestSameCallsSameHomes(t *testing.T) {
	homes := func(rooms int, between bool) ([]string, []int) {
		source := rand.New(rand.NewSource(3))
		b := laid(t, 60, rooms)
		var told []int
		for n := range 40 {
			k := n % rooms
			if between {
				mark := b.mark(k)
				b.put(k, "between")
				b.back(k, mark)
			}
			if firsts := b.want.firsts(); n%3 == 2 {
				b.drop(k, firsts[source.Intn(len(firsts))])
			} else {
				told = append(told, b.put(k, drawnText(source, source.Intn(3000))))
			}
		}
		return b.allHomes(), told
	}
	want, wantTold := homes(1, false)
	for _, rooms := range []int{1, 2, 3} {
		for _, between := range []bool{false, true} {
			if got, told := homes(rooms, between); !slices.Equal(got, want) || !slices.Equal(told, wantTold) {
				t.Fatalf("with %d rooms: other homes, or %v, not %v", rooms, told, wantTold)
			}
		}
	}
}

// The document's example.
func TestExample(t *testing.T) {
	b := laid(t, 3, 1)
	page, e := blob.Put(b.rooms[0], "")
	says(t, e, api.OK)
	used, e := b.rooms[0].Used()
	tells(t, used, e, 1, api.OK)
	has, e := b.rooms[0].Has(page)
	tells(t, has, e, true, api.OK)
	if got := blob.Pages(0); got != 1 {
		t.Error(got)
	}
}
