package recipe_test

import (
	"fmt"
	"math"
	"math/rand"
	"slices"
	"strings"
	"testing"
	"unsafe"

	"cooperage/api"
	"cooperage/chunks"
	"cooperage/cut"
	"cooperage/recipe"
	"cooperage/room"
	"cooperage/tree"
	"cooperage/tx"
	"cooperage/wal"
)

// someText: n bytes of any values.
func someText(source *rand.Rand, n int) string {
	text := make([]byte, n)
	source.Read(text)
	return string(text)
}

// drawn: a text of n bytes of any values, the same one at each run for one seed.
func drawn(seed, n int) string {
	return someText(rand.New(rand.NewSource(int64(seed))), n)
}

func zeros(n int) string {
	return strings.Repeat("\x00", n)
}

// uncut: n bytes in which no chunk ends ahead of its 128th byte, and of which no two chunks of 128 are the same.
func uncut(n int) string {
	var text strings.Builder
	for k := 0; text.Len() < n; k++ {
		for salt := 0; ; salt++ {
			one := fmt.Sprintf("%06d %09d", k, salt) + strings.Repeat("\x01\x00\x00\x00\x00\x00\x00\x00", 14)
			if len(cut.Cut(one)) == 1 {
				text.WriteString(one)
				break
			}
		}
	}
	return text.String()[:n]
}

// named: a name of 33 bytes that no text's chunk has, as far as anybody knows.
func named(letter string) string {
	return strings.Repeat(letter, 33)
}

// extremes: numbers at the edges of a text of so many bytes, and of ints.
func extremes(size int) []int {
	return []int{math.MinInt, math.MinInt + 1, math.MinInt + 2, math.MinInt + 1 + size/2, math.MinInt + size, math.MinInt / 2, math.MinInt32, -size, -2, -1, 0, 1, 2, size / 2, size - 1, size, size + 1, math.MaxInt32, 1 << 32, math.MaxInt / 2, math.MaxInt - size, math.MaxInt - 1, math.MaxInt}
}

// P12.1, in numbers, beside the model: what each call tells, step by step, of a text of two chunks of which one stands three times.
func TestStepByStep(t *testing.T) {
	b := laid(t, 40)
	a, z := uncut(128), zeros(16)
	text := z + z + a + z + "end"
	first, last := api.Ref{ID: name(z), Len: 16}, api.Ref{ID: name("end"), Len: 3}
	want := []api.Ref{first, first, refOf(a), first, last}
	refs, e := recipe.Build(b.store, text)
	lists(t, refs, e, want, api.OK)
	if recipe.Size(refs) != 179 || !recipe.Right(refs) {
		t.Fatalf("%d bytes", recipe.Size(refs))
	}
	for id, pending := range map[string]int64{name(z): 3, name(a): 1, name("end"): 1} {
		count, waits, e := b.store.Count(id)
		tells(t, [2]int64{count, waits}, e, [2]int64{0, pending}, api.OK)
	}
	said, e := recipe.Bytes(b.store, refs, 30, 5)
	tells(t, said, e, "\x00\x00"+a[:3], api.OK)
	said, e = recipe.Bytes(b.store, refs, 170, 100)
	tells(t, said, e, zeros(6)+"end", api.OK)
	lists(t, recipe.Pieces(refs, 31, 2), true, []api.Piece{{ID: name(z), From: 15, To: 16}, {ID: name(a), From: 0, To: 1}}, true)
	lists(t, recipe.Pieces(refs, 32, 128), true, []api.Piece{{ID: name(a), From: 0, To: 128}}, true)
	says(t, recipe.Take(b.store, refs[:2]), api.OK)
	says(t, recipe.Release(b.store, refs), api.OK)
	n, e := b.store.Waits()
	tells(t, n, e, 12, api.OK)
	n, e = b.store.Merge(99)
	tells(t, n, e, 12, api.OK)
	all, e := b.store.All()
	counts := map[string]int64{}
	for _, c := range all {
		counts[c.ID] = c.Count
	}
	if e != api.OK || counts[name(z)] != 2 || counts[name(a)] != 0 || counts[name("end")] != 0 {
		t.Fatalf("%s, %d", shown(counts), e)
	}
	says(t, recipe.Drop(b.store, refs[:2]), api.OK)
	count, waits, e := b.store.Count(name(z))
	tells(t, [2]int64{count, waits}, e, [2]int64{2, -2}, api.OK)
	written, ok := recipe.Write(refs[3:])
	tells(t, written, ok, name(z)+"\x10"+name("end")+"\x03", true)
	refs, ok = recipe.Read(written)
	lists(t, refs, ok, []api.Ref{first, last}, true)
}

// P12.1, the example: a text of 16 bytes has one ref of Len 16; one of 17 bytes one or two.
func TestSixteenBytes(t *testing.T) {
	for seed := range 60 {
		b := laid(t, 20)
		refs, e := b.build(drawn(seed, 16))
		lists(t, refs, e, []api.Ref{refOf(drawn(seed, 16))}, api.OK)
		refs, e = b.build(drawn(seed, 17))
		if e != api.OK || len(refs) < 1 || len(refs) > 2 || recipe.Size(refs) != 17 {
			t.Fatalf("%d, %s", e, shown(refs))
		}
	}
}

// texts: ordinary ones and the edges: empty, of one byte, of one chunk, of many, of chunks that come again and again.
func texts() []string {
	list := []string{"", "x", "\x00", "hello", "grüße, 世界", zeros(16), zeros(17), zeros(500), strings.Repeat("the quick brown fox jumps over the lazy dog. ", 40), uncut(1000)}
	for k, n := range []int{15, 16, 17, 31, 127, 128, 129, 255, 256, 257, 1000, 3000} {
		list = append(list, drawn(k, n), strings.Repeat("\xff", n), strings.Repeat(drawn(k, 40), n/20))
	}
	return list
}

// P12.1, P12.2: each text built, told whole, built again, taken, released and dropped, merged between; in one store, where chunks of one text stand in others.
func TestEachText(t *testing.T) {
	b := laid(t, 900)
	b.lazy = true
	for k, text := range texts() {
		b.lazy = k%7 > 0
		refs, e := b.build(text)
		says(t, e, api.OK)
		said, e := recipe.Bytes(b.store, refs, 0, len(text))
		tells(t, said, e, text, api.OK)
		tells(t, recipe.Size(refs), true, len(text), true)
		b.whole(refs)
		again, e := b.build(text)
		lists(t, again, e, refs, api.OK)
		says(t, b.take(refs), api.OK)
		b.merge(k)
		says(t, b.release(again), api.OK)
		_, e = b.drop(refs)
		says(t, e, api.OK)
	}
	b.commit()
	b.rest()
	b.reopen()
	for _, text := range texts() {
		said, e := recipe.Bytes(b.store, refsOf(text), 0, math.MaxInt)
		if want, wantErr := b.want.textOf(refsOf(text), 0, math.MaxInt); said != want || e != wantErr {
			t.Fatalf("%.60q, %d, not %.60q, %d", said, e, want, wantErr)
		}
	}
}

// P12.1, Keep: of each number of bytes up to past the greatest, twice, as Put and Add of 1 are.
func TestKeepEachLength(t *testing.T) {
	b := laid(t, 400)
	b.lazy = true
	for n := range 140 {
		want := api.OK
		if n == 0 || n > 128 {
			want = api.ErrArg
		}
		says(t, b.keep(strings.Repeat("k", n)), want)
		says(t, b.keep(strings.Repeat("k", n)), want)
		says(t, b.keep(drawn(n, n)), want)
	}
	says(t, b.keep(zeros(1<<17)), api.ErrArg)
	b.lazy = false
	b.check()
	b.rest()
}

// wrongRefs: what no recipe has.
func wrongRefs() []api.Ref {
	list := []api.Ref{{}, {Len: 1}, {ID: named("a")}, {ID: named("a")[:32], Len: 5}, {ID: named("a") + "a", Len: 5}, {ID: "x", Len: 1}, {ID: named("a") + named("b"), Len: 10}}
	for _, n := range []int{math.MinInt, -128, -1, 0, 129, 130, 255, 256, 257, 256 + 128, 1<<32 + 1, math.MaxInt} {
		list = append(list, api.Ref{ID: named("a"), Len: n})
	}
	return list
}

// forms: that Right, Write, Read and Size tell of refs what the document's words do.
func forms(t *testing.T, refs []api.Ref) {
	t.Helper()
	given := slices.Clone(refs)
	want, right := bytesOf(refs)
	if got := recipe.Right(refs); got != right {
		t.Fatalf("%v of %d refs, %s", got, len(refs), shown(refs))
	}
	tells(t, recipe.Size(refs), true, sizeOf(refs), true)
	got, ok := recipe.Write(refs)
	tells(t, got, ok, want, right)
	if !slices.Equal(refs, given) {
		t.Fatal("what was handed in has changed")
	}
	if right {
		again, ok := recipe.Read(got)
		lists(t, again, ok, refs, true)
	}
}

// readings: that Read tells of bytes what the document's words do, and that Write tells them back.
func readings(t *testing.T, s string) {
	t.Helper()
	want, right := readOf(s)
	got, ok := recipe.Read(s)
	lists(t, got, ok, want, right)
	if right {
		again, ok := recipe.Write(got)
		tells(t, again, ok, s, true)
	}
}

// P12.1, Right, Write, Read, Size: no ref, each Len there may be, and each wrong ref alone, first, last and between others.
func TestFormsAtEdges(t *testing.T) {
	forms(t, nil)
	forms(t, []api.Ref{})
	right := []api.Ref{{ID: zeros(33), Len: 1}, {ID: named("\xff"), Len: 128}, {ID: named("b"), Len: 16}}
	forms(t, right)
	for n := range 300 {
		forms(t, []api.Ref{{ID: named("n"), Len: n}})
	}
	for _, wrong := range wrongRefs() {
		for k := range 4 {
			refs := slices.Insert(slices.Clone(right), k, wrong)
			forms(t, refs)
			forms(t, refs[k:k+1])
			tells(t, recipe.Right(refs), recipe.Right(refs[k:k+1]), false, false)
			lists(t, recipe.Pieces(refs, 0, 10), true, nil, true)
		}
	}
}

// P12.1, Read: bytes cut off within a ref, wherever; some too many; each byte where a Len stands.
func TestReadAtEdges(t *testing.T) {
	text, _ := bytesOf([]api.Ref{{ID: named("a"), Len: 1}, {ID: named("\x00"), Len: 128}, {ID: named("c"), Len: 77}})
	for n := range len(text) + 1 {
		readings(t, text[:n])
		readings(t, text[n:])
		readings(t, text+text[:n])
	}
	for n := range 256 {
		for k := range 3 {
			at := 34*k + 33
			readings(t, text[:at]+string([]byte{byte(n)})+text[at+1:])
		}
	}
	readings(t, zeros(34))
	readings(t, strings.Repeat("\x01", 34))
	readings(t, strings.Repeat("\xff", 34))
}

// P12.1: MaxRefs refs, and one more, of no store and of one in which the chunk is.
func TestMostRefs(t *testing.T) {
	b := laid(t, 900)
	b.lazy = true
	says(t, b.keep("most"), api.OK)
	for n, right := range map[int]bool{3999: true, 4000: true, 4001: false, 8000: false} {
		refs := slices.Repeat([]api.Ref{refOf("most")}, n)
		forms(t, refs)
		tells(t, recipe.Right(refs), true, right, true)
		readings(t, strings.Repeat(named("r")+"\x07", n))
		want, size := api.OK, 4*n
		if !right {
			want, size = api.ErrArg, 0
		}
		tells(t, recipe.Size(refs), true, size, true)
		says(t, b.take(refs), want)
		says(t, b.release(refs), want)
		_, e := b.drop(refs)
		says(t, e, want)
		said, e := recipe.Bytes(b.store, refs, 0, math.MaxInt)
		tells(t, said, e, strings.Repeat("most", size/4), want)
		tells(t, len(recipe.Pieces(refs, 1, math.MaxInt)), true, size/4, true)
		b.look(refs, 4*n-5, 9)
	}
	b.lazy = false
	b.check()
}

// P12.1, Build: texts that have just MaxRefs chunks, and those that have more: of the least chunks, of the greatest ones, and of both.
func TestMostChunks(t *testing.T) {
	great := uncut(4000 * 128)
	for _, text := range []string{zeros(4000 * 16), great, zeros(2000*16) + great[:2000*128], zeros(3999*16) + uncut(128)} {
		b := laid(t, 6000)
		b.lazy = true
		refs, e := b.build(text)
		if e != api.OK || len(refs) != 4000 || recipe.Size(refs) != len(text) {
			t.Fatalf("%d, %d refs", e, len(refs))
		}
		said, e := recipe.Bytes(b.store, refs, 0, len(text))
		tells(t, said, e, text, api.OK)
		said, e = recipe.Bytes(b.store, refs, 12345, 23456)
		tells(t, said, e, text[12345:12345+23456], api.OK)
		for _, more := range []string{"\x00", "x", text, zeros(1 << 16)} {
			_, e := b.build(text + more)
			says(t, e, api.ErrBig)
		}
		_, e = b.build(zeros(16) + text)
		says(t, e, api.ErrBig)
		b.merge(1234)
		says(t, b.release(refs), api.OK)
		b.rest()
		tells(t, len(b.want.chunks), true, 0, true)
	}
}

// P12.1, Pieces and Bytes: from each place on, of each number of bytes, and of numbers as great and as small as an int can be.
func TestEachPlace(t *testing.T) {
	b := laid(t, 40)
	for _, text := range []string{"", "x", zeros(16) + "end", drawn(1, 60) + zeros(32) + drawn(2, 20)} {
		refs, e := b.build(text)
		says(t, e, api.OK)
		for from := -3; from <= len(text)+3; from++ {
			for n := -2; n <= len(text)+5; n++ {
				b.look(refs, from, n)
			}
			for _, n := range extremes(len(text)) {
				b.look(refs, from, n)
				b.look(refs, n, from)
			}
		}
		for _, from := range extremes(len(text)) {
			for _, n := range extremes(len(text)) {
				b.look(refs, from, n)
			}
		}
	}
}

// P12.1, Pieces: of refs of chunks that are nowhere: no store is asked. Each has a byte at least.
func TestPiecesOfDrawnRefs(t *testing.T) {
	source := rand.New(rand.NewSource(5))
	for range 3000 {
		var refs []api.Ref
		for range source.Intn(8) {
			refs = append(refs, drawnRef(source, 300))
		}
		size := sizeOf(refs)
		from, n := drawnPlace(source, size), drawnPlace(source, size)
		got := recipe.Pieces(refs, from, n)
		lists(t, got, true, piecesOf(refs, from, n), true)
		for _, p := range got {
			if p.From < 0 || p.From >= p.To || p.To > 128 {
				t.Fatal(shown(p))
			}
		}
	}
}

// P12.1: chunks that aren't there, and refs whose Len is another one than their chunk's: lost for Bytes, if something of them is asked, else not; for Take, Release and Drop the chunk counts alone.
func TestLostChunks(t *testing.T) {
	b := laid(t, 40)
	refs, e := b.build(zeros(48) + drawn(3, 100))
	says(t, e, api.OK)
	right := refs[0]
	for _, lost := range []api.Ref{{ID: named("x"), Len: 5}, {ID: right.ID, Len: 15}, {ID: right.ID, Len: 17}, {ID: right.ID, Len: 1}, {ID: right.ID, Len: 128}, {ID: right.ID[:32] + "\x01", Len: 16}} {
		for k := range len(refs) + 1 {
			bad := slices.Insert(slices.Clone(refs), k, lost)
			ahead, size := sizeOf(bad[:k]), sizeOf(bad)
			b.look(bad, 0, ahead)
			b.look(bad, ahead+lost.Len, size)
			b.look(bad, ahead, 0)
			said, e := recipe.Bytes(b.store, bad, ahead+lost.Len-1, 1)
			tells(t, said, e, "", api.ErrLost)
			said, e = recipe.Bytes(b.store, bad, 0, ahead+1)
			tells(t, said, e, "", api.ErrLost)
			for from := range size {
				b.look(bad, from, 1)
				b.look(bad, from, 20)
				b.look(bad, 0, from)
			}
			mark := b.mark()
			want := api.OK
			if lost.ID != right.ID {
				want = api.ErrLost
			}
			says(t, b.take(bad), want)
			says(t, b.release(bad), want)
			_, e = b.drop(bad)
			says(t, e, want)
			b.back(mark)
		}
	}
}

// P12.1: chunks of a recipe that were given up are lost; built again they are there again.
func TestChunksGivenUp(t *testing.T) {
	b := laid(t, 60)
	text := drawn(4, 700)
	refs, e := b.build(text)
	says(t, e, api.OK)
	b.rest()
	b.whole(refs)
	says(t, b.release(refs), api.OK)
	b.whole(refs)
	b.rest()
	b.look(refs, 0, 1)
	b.look(refs, 0, 0)
	b.look(refs, len(text), 9)
	says(t, b.take(refs), api.ErrLost)
	says(t, b.release(refs), api.ErrLost)
	_, e = b.drop(refs)
	says(t, e, api.ErrLost)
	again, e := b.build(text)
	lists(t, again, e, refs, api.OK)
	b.whole(refs)
}

// P12.1: the log's entries of Build, Take, Release and Drop stand in the refs' order, one for each ref: merged one by one, they change the counts so.
func TestInOrder(t *testing.T) {
	text := drawn(6, 500) + zeros(48) + drawn(6, 200)
	calls := map[string]func(b *bench, refs []api.Ref){
		"Build":   func(b *bench, refs []api.Ref) { b.build(text) },
		"Take":    func(b *bench, refs []api.Ref) { b.take(refs) },
		"Release": func(b *bench, refs []api.Ref) { b.release(refs) },
		"Drop":    func(b *bench, refs []api.Ref) { b.drop(refs) },
	}
	for name, call := range calls {
		t.Run(name, func(t *testing.T) {
			b := laid(t, 80)
			refs, e := b.build(text)
			says(t, e, api.OK)
			b.merge(len(refs))
			call(b, refs)
			if len(b.want.log) != len(refs) || len(refs) < 10 {
				t.Fatalf("%d entries, %d refs", len(b.want.log), len(refs))
			}
			for range refs {
				b.merge(1)
			}
		})
	}
}

// P12.1: a recipe in which one chunk stands many times: each time counts.
func TestSameChunkManyTimes(t *testing.T) {
	b := laid(t, 40)
	refs, e := b.build(zeros(160))
	lists(t, refs, e, slices.Repeat([]api.Ref{refOf(zeros(16))}, 10), api.OK)
	says(t, b.take(refs[:7]), api.OK)
	says(t, b.release(refs[:3]), api.OK)
	_, e = b.drop(refs[:2])
	says(t, e, api.OK)
	count, pending, e := b.store.Count(refs[0].ID)
	tells(t, [2]int64{count, pending}, e, [2]int64{0, 12}, api.OK)
	b.merge(99)
	says(t, b.release(refs), api.OK)
	says(t, b.release(refs), api.OK)
	b.merge(99)
	count, pending, e = b.store.Count(refs[0].ID)
	tells(t, [2]int64{count, pending}, e, [2]int64{-8, 0}, api.OK)
	b.rest()
	tells(t, len(b.want.chunks), true, 0, true)
}

// P12.2: recipes one behind the other stand for both texts: whole, and in each part across where they meet; written one behind the other they are read so.
func TestOneBehindTheOther(t *testing.T) {
	b := laid(t, 900)
	b.lazy = true
	all := texts()
	for k, one := range all {
		other := all[(k*7+3)%len(all)]
		first, e := b.build(one)
		says(t, e, api.OK)
		second, e := b.build(other)
		says(t, e, api.OK)
		both, text := slices.Concat(first, second), one+other
		said, e := recipe.Bytes(b.store, both, 0, len(text))
		tells(t, said, e, text, api.OK)
		for _, from := range []int{0, len(one) - 40, len(one) - 1, len(one), len(one) + 1, len(one) + 40} {
			for _, n := range []int{1, 2, 41, 300} {
				from := min(max(from, 0), len(text))
				said, e := recipe.Bytes(b.store, both, from, n)
				tells(t, said, e, text[from:min(from+n, len(text))], api.OK)
				lists(t, recipe.Pieces(both, from, n), true, piecesOf(both, from, n), true)
			}
		}
		ahead, _ := recipe.Write(first)
		behind, _ := recipe.Write(second)
		refs, ok := recipe.Read(ahead + behind)
		lists(t, refs, ok, both, true)
		tells(t, recipe.Size(both), true, len(text), true)
		says(t, b.release(both), api.OK)
	}
	b.lazy = false
	b.check()
}

// R1, P12.1: which error comes first where several would fit: ErrDown, ErrArg, ErrBig, and then what comes at the first chunk at which one comes.
func TestWhichErrorComesFirst(t *testing.T) {
	b := laid(t, 30)
	refs, e := b.build(zeros(16))
	says(t, e, api.OK)
	b.rest()
	there, lost, wrong := refs[0], api.Ref{ID: named("x"), Len: 5}, api.Ref{ID: named("y")}
	b.leave(0)
	says(t, b.keep(""), api.ErrArg)
	says(t, b.keep(zeros(129)), api.ErrArg)
	says(t, b.keep("new"), api.ErrFull)
	says(t, b.keep(zeros(16)), api.ErrFull)
	_, e = b.build(zeros(4001 * 16))
	says(t, e, api.ErrBig)
	_, e = b.build(zeros(16))
	says(t, e, api.ErrFull)
	_, e = b.build("")
	says(t, e, api.OK)
	for _, call := range []func([]api.Ref) api.Errno{b.take, b.release} {
		says(t, call([]api.Ref{lost, wrong}), api.ErrArg)
		says(t, call([]api.Ref{there, wrong}), api.ErrArg)
		says(t, call([]api.Ref{lost, there}), api.ErrLost)
		says(t, call([]api.Ref{there, lost}), api.ErrFull)
		says(t, call(nil), api.OK)
	}
	_, e = b.drop([]api.Ref{there, wrong, lost})
	says(t, e, api.ErrArg)
	_, e = b.drop([]api.Ref{there, there, lost})
	says(t, e, api.ErrLost)
	said, e := recipe.Bytes(b.store, []api.Ref{lost, wrong}, 0, 0)
	tells(t, said, e, "", api.ErrArg)
	said, e = recipe.Bytes(b.store, []api.Ref{lost, wrong}, 0, 1)
	tells(t, said, e, "", api.ErrArg)
	b.bringDown()
	downs(t, b.store)
}

// downs: that each call of such a store answers ErrDown, and nothing beside it.
func downs(t *testing.T, s *chunks.Store) {
	t.Helper()
	for _, text := range []string{"", "a", zeros(16), zeros(128), zeros(129), zeros(1 << 17), strings.Repeat("l", 1<<20)} {
		ref, e := recipe.Keep(s, text)
		tells(t, ref, e, api.Ref{}, api.ErrDown)
		refs, e := recipe.Build(s, text)
		lists(t, refs, e, nil, api.ErrDown)
	}
	all := refsOf(drawn(1, 500))
	for _, refs := range [][]api.Ref{nil, {}, all, {refOf(zeros(16))}, {{ID: named("x"), Len: 5}}, {{}}, slices.Repeat(all[:1], 4001)} {
		says(t, recipe.Take(s, refs), api.ErrDown)
		says(t, recipe.Release(s, refs), api.ErrDown)
		says(t, recipe.Drop(s, refs), api.ErrDown)
		for _, from := range extremes(3) {
			for _, n := range extremes(3) {
				said, e := recipe.Bytes(s, refs, from, n)
				tells(t, said, e, "", api.ErrDown)
			}
		}
	}
}

// R2: of a nil store, a zero one, one of a nil room, and of rooms of changes and logs that are none.
func TestNil(t *testing.T) {
	var none *chunks.Store
	stores := map[string]*chunks.Store{
		"nil":        none,
		"zero":       {},
		"nil room":   chunks.At(nil),
		"zero room":  chunks.At(&room.Room{}),
		"nil change": chunks.At(room.Of(nil)),
		"nil log":    chunks.At(room.Of(tx.Begin(nil))),
		"zero log":   chunks.At(room.Of(tx.Begin(&wal.Log{}))),
	}
	for name, s := range stores {
		t.Run(name, func(t *testing.T) { downs(t, s) })
	}
}

// P12.1: of a store whose log has gone down each call answers ErrDown; opened again, what was committed is there, and nothing else.
func TestLogThatIsDown(t *testing.T) {
	b := laid(t, 80)
	text := drawn(8, 600)
	refs, e := b.build(text)
	says(t, e, api.OK)
	b.commit()
	says(t, b.take(refs), api.OK)
	b.build(text + text)
	b.bringDown()
	downs(t, b.store)
	lists(t, recipe.Pieces(refs, 5, 400), true, piecesOf(refs, 5, 400), true)
	forms(t, refs)
	b.reopen()
	said, e := recipe.Bytes(b.store, refs, 0, len(text))
	tells(t, said, e, text, api.OK)
	b.rest()
	b.whole(refs)
}

// spoil: overwrites a text's bytes, so that whoever shares them has another one.
func spoil(s string) {
	for k := range len(s) {
		*(*byte)(unsafe.Add(unsafe.Pointer(unsafe.StringData(s)), k)) = 'y'
	}
}

// spoilRefs: their names' bytes, and themselves.
func spoilRefs(refs []api.Ref) {
	for k := range refs {
		spoil(refs[k].ID)
		refs[k] = api.Ref{ID: "other", Len: -1}
	}
}

// given: a text whose bytes nobody else has.
func given(s string) string {
	bytes := []byte(s)
	return unsafe.String(unsafe.SliceData(bytes), len(bytes))
}

// givenRefs: refs of which nobody else has anything.
func givenRefs(refs []api.Ref) []api.Ref {
	var list []api.Ref
	for _, ref := range refs {
		list = append(list, api.Ref{ID: given(ref.ID), Len: ref.Len})
	}
	return list
}

// R4: what a call hands out or takes is shared with nothing.
func TestSharesNothing(t *testing.T) {
	b := laid(t, 120)
	text := zeros(32) + drawn(9, 400)
	want := refsOf(text)
	for k := range 3 {
		body := given(text)
		refs, e := recipe.Build(b.store, body)
		spoil(body)
		lists(t, refs, e, want, api.OK)
		spoilRefs(refs)
		body = given(fmt.Sprint("kept", k))
		ref, e := recipe.Keep(b.store, body)
		spoil(body)
		tells(t, ref, e, refOf(fmt.Sprint("kept", k)), api.OK)
		spoil(ref.ID)
		for _, one := range cut.Cut(text) {
			b.want.put(one)
			b.want.add(name(one), 1)
		}
		b.want.put(fmt.Sprint("kept", k))
		b.want.add(name(fmt.Sprint("kept", k)), 1)
		b.check()
		for n, call := range []func(*chunks.Store, []api.Ref) api.Errno{recipe.Take, recipe.Release, recipe.Drop} {
			refs = givenRefs(want[:k+2])
			says(t, call(b.store, refs), api.OK)
			spoilRefs(refs)
			for _, ref := range want[:k+2] {
				b.want.add(ref.ID, []int{1, -1, -1}[n])
			}
			b.merge(7)
		}
		b.sharesNoParts(want, text)
		b.commit()
	}
}

// sharesNoParts: what Write, Read, Pieces and Bytes hand out or take.
func (b *bench) sharesNoParts(want []api.Ref, text string) {
	b.t.Helper()
	written, _ := bytesOf(want)
	refs := givenRefs(want)
	got, ok := recipe.Write(refs)
	pieces := recipe.Pieces(refs, 3, 100)
	said, e := recipe.Bytes(b.store, refs, 1, 20)
	if !slices.Equal(refs, want) {
		b.t.Fatal("what was handed in has changed")
	}
	spoilRefs(refs)
	tells(b.t, got, ok, written, true)
	lists(b.t, pieces, true, piecesOf(want, 3, 100), true)
	tells(b.t, said, e, text[1:21], api.OK)
	refs, ok = recipe.Read(got)
	spoil(got)
	lists(b.t, refs, ok, want, true)
	spoilRefs(refs[1:])
	tells(b.t, refs[0], true, want[0], true)
	spoil(pieces[0].ID)
	tells(b.t, pieces[1].ID, true, want[1].ID, true)
	spoil(said)
	b.check()
	b.whole(want)
	for _, ref := range want {
		said, e := recipe.Bytes(b.store, []api.Ref{ref}, 0, ref.Len)
		says(b.t, e, api.OK)
		spoil(said)
	}
	b.whole(want)
}

// R7: the same calls leave the same homes, whatever was done and taken back between.
func TestSameCallsSameHomes(t *testing.T) {
	run := func(between func(b *bench, k int)) []string {
		b := laid(t, 200)
		for k, text := range texts()[:16] {
			refs, e := b.build(text)
			says(t, e, api.OK)
			between(b, k)
			b.take(refs)
			b.drop(refs)
			b.merge(k)
		}
		return b.now().homes
	}
	want := run(func(b *bench, k int) {})
	got := run(func(b *bench, k int) {
		mark := b.mark()
		refs, _ := b.build(drawn(k, 300))
		b.release(refs)
		b.merge(k)
		b.back(mark)
		b.build(zeros(4001 * 16))
		b.take([]api.Ref{refOf(zeros(16)), {ID: named("x"), Len: 1}})
	})
	if !slices.Equal(got, want) {
		t.Fatal("other homes")
	}
}

// P12.1: what a call has done is gone behind Back, and is there behind Commit.
func TestBackAndCommit(t *testing.T) {
	b := laid(t, 120)
	text := drawn(10, 500)
	refs, _ := b.build(text)
	b.commit()
	calls := []func(){
		func() { b.keep("kept") },
		func() { b.build(drawn(11, 300)) },
		func() { b.take(refs) },
		func() { b.release(refs[:3]) },
		func() { b.drop(refs[2:5]) },
	}
	for _, call := range calls {
		mark := b.mark()
		for _, other := range calls {
			other()
		}
		b.back(mark)
		call()
		b.commit()
		b.reopen()
		b.whole(refs)
	}
	m, e := tree.At(b.room, 0).Count()
	tells(t, m, e, len(b.want.chunks), api.OK)
}
