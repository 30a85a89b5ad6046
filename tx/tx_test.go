package tx_test

import (
	"fmt"
	"math"
	"math/rand"
	"slices"
	"strings"
	"testing"
	"time"
	"unsafe"

	"cooperage/api"
	"cooperage/tx"
	"cooperage/wal"
)

// P6.1, Homes: the log's, also of one that is down.
func TestHomes(t *testing.T) {
	for _, homes := range []int{1, 2, 11, 300} {
		for _, ring := range []int{4, 8, 256} {
			b := laid(t, ring, homes, 1)
			b.write(0, 0, "put")
			tells(t, b.changes[0].got.Homes(), homes)
			b.bringDown()
			tells(t, b.changes[0].got.Homes(), homes)
		}
	}
}

// P6.1: Begin answers a change without puts, each its own.
func TestBegin(t *testing.T) {
	b := laid(t, 8, 3, 2)
	b.check()
	if b.changes[0].got == b.changes[1].got {
		t.Error("one change, not two")
	}
	b.put(api.Put{At: 1, Text: "log"})
	b.write(0, 1, "change")
	b.changes = append(b.changes, pair{tx.Begin(b.log), &gathered{log: b.want}})
	b.check()
	holds(t, b.changes[2].got.Read, 1, padded("log"), api.OK)
	tells(t, b.changes[2].got.Mark(), 0)
	tells(t, b.changes[2].got.Touched(), 0)
}

// P6.1, Read and Write: of numbers of homes, and of others.
func TestOnlyHomesAreReadAndPut(t *testing.T) {
	for _, homes := range []int{1, 2, 11} {
		b := laid(t, 8, homes, 1)
		change := b.changes[0].got
		for _, i := range places(homes) {
			want, before, behind := api.ErrRange, "", ""
			if i >= 0 && i < homes {
				want, before, behind = api.OK, padded(""), padded("put")
			}
			holds(t, change.Read, i, before, want)
			says(t, change.Write(i, "put"), want)
			holds(t, change.Read, i, behind, want)
			change.Drop()
		}
	}
}

// P6.1, Read: of a home without puts, with one, with several, behind Back, Commit and Drop, and while others put there.
func TestReadsWhatWasPutLast(t *testing.T) {
	b := laid(t, 8, 4, 2)
	sees := func(k int, want string) {
		t.Helper()
		b.check()
		holds(t, b.changes[k].got.Read, 2, padded(want), api.OK)
	}
	sees(0, "")
	b.put(api.Put{At: 2, Text: "log"})
	sees(0, "log")
	b.write(0, 2, "first, a long one")
	sees(0, "first, a long one")
	b.write(0, 1, "elsewhere")
	b.write(0, 2, "second")
	b.write(0, 2, "third")
	sees(0, "third")
	sees(1, "log")
	b.back(0, 3)
	sees(0, "second")
	b.back(0, 2)
	sees(0, "first, a long one")
	b.put(api.Put{At: 2, Text: "log again"})
	sees(0, "first, a long one")
	sees(1, "log again")
	b.write(1, 2, "the other one's")
	sees(0, "first, a long one")
	b.commit(1)
	sees(0, "first, a long one")
	sees(1, "the other one's")
	b.back(0, 0)
	sees(0, "the other one's")
	b.write(0, 2, "fourth")
	b.commit(0)
	sees(0, "fourth")
	sees(1, "fourth")
	b.put(api.Put{At: 2, Text: "log at last"})
	sees(0, "log at last")
	b.write(0, 2, "fifth")
	b.drop(0)
	sees(0, "log at last")
}

// P6.1, Write: texts of up to 512 bytes, of any bytes, over longer and shorter ones; of more bytes nothing is put.
func TestTextsOfEachLength(t *testing.T) {
	lengths := []int{512, 0, 511, 1, 512, 2, 256, 510, 0}
	text := func(n int) string {
		list := make([]byte, n)
		for i := range list {
			list[i] = byte(255 - i - n)
		}
		return string(list)
	}
	b := laid(t, 8, 3, 1)
	for _, n := range lengths {
		b.write(0, 1, text(n))
		for _, more := range []int{513, 514, 1024, 1 << 20} {
			says(t, b.changes[0].got.Write(1, text(more)), api.ErrBig)
			b.check()
		}
		holds(t, b.changes[0].got.Read, 1, padded(text(n)), api.OK)
	}
	tells(t, b.changes[0].got.Mark(), len(lengths))
	for k := range slices.Backward(lengths) {
		b.back(0, k+1)
		holds(t, b.changes[0].got.Read, 1, padded(text(lengths[k])), api.OK)
	}
	for _, n := range lengths {
		b.write(0, 1, text(n))
		b.commit(0)
		holds(t, b.log.Read, 1, padded(text(n)), api.OK)
	}
}

// R1: of Write's errors the first one in the chapter's order; and R3: one that is refused is no put.
func TestWriteRefuses(t *testing.T) {
	long := strings.Repeat("l", 513)
	b := laid(t, 8, 3, 1)
	b.write(0, 1, "before")
	change := b.changes[0].got
	refuses := func(range_, big api.Errno) {
		t.Helper()
		for _, i := range []int{math.MinInt, -1, 3, 4, math.MaxInt} {
			says(t, change.Write(i, "short"), range_)
			says(t, change.Write(i, long), range_)
			b.check()
		}
		for i := range 3 {
			says(t, change.Write(i, long), big)
			b.check()
		}
		tells(t, change.Mark(), 1)
		tells(t, change.Touched(), 1)
	}
	refuses(api.ErrRange, api.ErrBig)
	b.bringDown()
	refuses(api.ErrDown, api.ErrDown)
	says(t, change.Write(1, "short"), api.ErrDown)
	b.check()
}

// P6.1, Mark: how many puts there are: of none, behind puts, refused ones, Back, Commit, Drop.
func TestMark(t *testing.T) {
	b := laid(t, 8, 3, 1)
	change := b.changes[0].got
	tells(t, change.Mark(), 0)
	says(t, change.Write(3, "refused"), api.ErrRange)
	says(t, change.Write(0, strings.Repeat("r", 513)), api.ErrBig)
	tells(t, change.Mark(), 0)
	for k := range 10 {
		b.write(0, k%2, "same")
		tells(t, change.Mark(), k+1)
	}
	says(t, change.Write(-1, "refused"), api.ErrRange)
	tells(t, change.Mark(), 10)
	change.Read(0)
	change.Read(7)
	tells(t, change.Mark(), 10)
	b.back(0, 4)
	tells(t, change.Mark(), 4)
	b.write(0, 2, "")
	tells(t, change.Mark(), 5)
	b.commit(0)
	tells(t, change.Mark(), 0)
	b.write(0, 2, "")
	tells(t, change.Mark(), 1)
	b.drop(0)
	tells(t, change.Mark(), 0)
}

// P6.1, Back: to each mark there is, and to those that are none: of more puts nothing is forgotten, of one below 0 all.
func TestBack(t *testing.T) {
	for _, puts := range []int{0, 1, 2, 9} {
		marks := []int{math.MinInt, math.MinInt32, -puts, -1, puts + 1, puts + 100, 1 << 32, math.MaxInt}
		for mark := range puts + 1 {
			marks = append(marks, mark)
		}
		for _, mark := range marks {
			b := laid(t, 8, 4, 1)
			for k := range puts {
				b.write(0, k%3, fmt.Sprint("put ", k))
			}
			b.back(0, mark)
			tells(t, b.changes[0].got.Mark(), min(max(mark, 0), puts))
			b.back(0, mark)
			b.write(0, 1, "behind")
			b.write(0, 3, "behind")
			b.back(0, b.changes[0].got.Mark()-1)
			b.commit(0)
		}
	}
}

// P6.1, Back: a mark that was taken ahead of another Back is no more than how many puts there were.
func TestMarkTakenAheadOfAnotherBack(t *testing.T) {
	b := laid(t, 8, 4, 1)
	change := b.changes[0].got
	b.write(0, 0, "a")
	first := change.Mark()
	b.write(0, 0, "b")
	b.write(0, 1, "c")
	second := change.Mark()
	b.write(0, 1, "d")
	b.back(0, first)
	b.back(0, second) // there aren't so many
	holds(t, change.Read, 0, padded("a"), api.OK)
	for range 4 {
		b.write(0, 2, "e")
	}
	b.back(0, second) // as many puts, others
	tells(t, change.Mark(), 3)
	holds(t, change.Read, 1, padded(""), api.OK)
	holds(t, change.Read, 2, padded("e"), api.OK)
	b.commit(0)
	b.back(0, second)
	tells(t, change.Mark(), 0)
	b.write(0, 3, "f")
	b.back(0, first)
	holds(t, change.Read, 3, padded("f"), api.OK)
}

// P6.1, Touched: unlike homes: of no put, of one home's several, of several, behind Back.
func TestTouched(t *testing.T) {
	b := laid(t, 8, 4, 1)
	change := b.changes[0].got
	tells(t, change.Touched(), 0)
	for range 3 {
		b.write(0, 2, "same home")
		tells(t, change.Touched(), 1)
	}
	b.write(0, 0, "")
	b.write(0, 3, "")
	b.write(0, 2, "")
	tells(t, change.Touched(), 3)
	for mark, want := range []int{0, 1, 1, 1, 2, 3, 3} {
		b.back(0, 6)
		for change.Mark() < 6 {
			b.write(0, []int{2, 2, 2, 0, 3, 2}[change.Mark()], "")
		}
		b.back(0, mark)
		tells(t, change.Touched(), want)
	}
	b.commit(0)
	tells(t, change.Touched(), 0)
	b.write(0, 1, "")
	b.drop(0)
	tells(t, change.Touched(), 0)
}

// P6.1, Commit: of no put; the homes hold what was put last; there are no puts then, so that it can't be made twice.
func TestCommit(t *testing.T) {
	b := laid(t, 8, 4, 2)
	b.commit(0)
	b.put(api.Put{At: 0, Text: "log"})
	b.commit(0)
	b.write(0, 0, "a long one")
	b.write(0, 3, "b")
	b.write(0, 0, "c")
	b.commit(0)
	holds(t, b.log.Read, 0, padded("c"), api.OK)
	holds(t, b.log.Read, 3, padded("b"), api.OK)
	b.put(api.Put{At: 0, Text: "log again"})
	b.commit(0) // makes nothing of what it put ahead
	holds(t, b.log.Read, 0, padded("log again"), api.OK)
	b.write(0, 1, "d")
	b.back(0, 0)
	b.commit(0)
	holds(t, b.log.Read, 1, padded(""), api.OK)
	b.write(0, 1, "e")
	b.drop(0)
	b.commit(0)
	holds(t, b.log.Read, 1, padded(""), api.OK)
}

// P6.1, Commit: of puts that the ring has just room for, however many of one home; of more it is refused and they stay.
func TestCommitOfRingsSize(t *testing.T) {
	for _, ring := range []int{4, 5, 8, 9, 105, 106, 256} {
		n := most(ring)
		b := laid(t, ring, n+2, 1)
		change := b.changes[0].got
		for round := range 4 {
			for k := range 2 * n {
				says(t, change.Write(k%n+round%2, fmt.Sprint(round, " ", k)), b.changes[0].want.write(k%n+round%2, fmt.Sprint(round, " ", k)))
			}
			just := change.Mark()
			b.write(0, n+1, "more")
			for range 2 {
				says(t, change.Commit(), api.ErrBig)
				b.check()
				tells(t, change.Mark(), 2*n+1)
			}
			b.back(0, just)
			says(t, change.Commit(), api.OK)
			b.changes[0].want.commit()
			b.check()
			holds(t, b.log.Read, n-1, padded(fmt.Sprint(round, " ", 2*n-1-round%2)), api.OK)
		}
	}
}

// P6.1, Drop: of no put, behind Write; a change goes on behind it.
func TestDrop(t *testing.T) {
	b := laid(t, 8, 3, 2)
	b.drop(0)
	b.write(0, 0, "a")
	b.write(0, 1, "b")
	b.write(1, 0, "other")
	b.drop(0)
	b.drop(0)
	b.back(0, 2)
	b.write(0, 1, "c")
	b.commit(0)
	holds(t, b.log.Read, 0, padded(""), api.OK)
	holds(t, b.log.Read, 1, padded("c"), api.OK)
	b.commit(1)
	holds(t, b.log.Read, 0, padded("other"), api.OK)
}

// P6.1: a change whose log has gone down: Read, Write and Commit say so ahead of all else, of its own puts, too; marks go on.
func TestLogThatIsDown(t *testing.T) {
	down := map[string]func(b *bench){
		"by the log's Commit": func(b *bench) {},
		"by its own Commit": func(b *bench) {
			b.disk.Fuel(0)
			says(t, b.changes[0].got.Commit(), api.ErrDown)
		},
		"by the other one's Commit": func(b *bench) {
			b.disk.Fuel(1)
			says(t, b.changes[1].got.Commit(), api.ErrDown)
		},
		"by the log's Checkpoint": func(b *bench) {
			b.disk.Fuel(0)
			says(t, b.log.Checkpoint(), api.ErrDown)
		},
	}
	for how, bring := range down {
		t.Run(how, func(t *testing.T) {
			b := laid(t, 8, 4, 2)
			b.put(api.Put{At: 0, Text: "log"})
			for k, i := range []int{1, 2, 1, 3, 1} {
				b.write(0, i, fmt.Sprint("put ", k))
			}
			b.write(1, 2, "other")
			bring(b)
			b.bringDown()
			change := b.changes[0].got
			for _, i := range places(4) {
				holds(t, change.Read, i, "", api.ErrDown)
				says(t, change.Write(i, "w"), api.ErrDown)
				says(t, change.Write(i, strings.Repeat("w", 513)), api.ErrDown)
			}
			b.check()
			b.commit(0)
			b.back(0, 9)
			b.back(0, 4)
			tells(t, change.Touched(), 3)
			b.back(0, 3)
			tells(t, change.Touched(), 2)
			b.back(0, -1)
			tells(t, change.Mark(), 0)
			b.commit(0)
			b.drop(1)
			b.commit(1)
			late := tx.Begin(b.log)
			tells(t, late.Homes(), 4)
			tells(t, late.Mark(), 0)
			says(t, late.Commit(), api.ErrDown)
			says(t, late.Write(0, ""), api.ErrDown)
			holds(t, late.Read, 0, "", api.ErrDown)
		})
	}
}

// P6.1: a Commit that more than the ring would have is refused by a log that is down as one that is down.
func TestDownAheadOfBig(t *testing.T) {
	b := laid(t, 4, 8, 1)
	for i := range 8 {
		b.write(0, i, "put")
	}
	says(t, b.changes[0].got.Commit(), api.ErrBig)
	b.bringDown()
	says(t, b.changes[0].got.Commit(), api.ErrDown)
	tells(t, b.changes[0].got.Mark(), 8)
}

// R2: a nil change, a change of a nil log, and a zero one: ErrDown, 0, nothing.
func TestNil(t *testing.T) {
	for _, change := range []*tx.Tx{nil, tx.Begin(nil), {}} {
		for range 2 {
			tells(t, change.Homes(), 0)
			for _, i := range places(3) {
				holds(t, change.Read, i, "", api.ErrDown)
				for _, n := range []int{0, 512, 513} {
					says(t, change.Write(i, strings.Repeat("n", n)), api.ErrDown)
				}
				change.Back(i)
			}
			tells(t, change.Mark(), 0)
			tells(t, change.Touched(), 0)
			says(t, change.Commit(), api.ErrDown)
			change.Drop()
		}
	}
	zero := tx.Begin(&wal.Log{})
	tells(t, zero.Homes(), 0)
	says(t, zero.Write(0, ""), api.ErrDown)
	says(t, zero.Commit(), api.ErrDown)
}

// R4: what a call hands out or takes is shared with nothing.
func TestSharesNothing(t *testing.T) {
	b := laid(t, 8, 3, 2)
	change := b.changes[0].got
	taken := []byte(strings.Repeat("t", 512))
	given := unsafe.String(unsafe.SliceData(taken), len(taken))
	says(t, change.Write(0, given), api.OK)
	says(t, change.Write(1, given[:100]), api.OK)
	for i := range taken {
		taken[i] = 'x'
	}
	want := []string{strings.Repeat("t", 512), padded(strings.Repeat("t", 100)), padded("")}
	spoil := func(read func(i int) (string, api.Errno)) {
		t.Helper()
		for i, text := range want {
			got, _ := read(i)
			if got != text {
				t.Fatalf("home %d: %.20q", i, got)
			}
			// The caller's own: whoever could write there would change nobody else's.
			for k := range len(got) {
				*(*byte)(unsafe.Add(unsafe.Pointer(unsafe.StringData(got)), k)) = 'y'
			}
			if again, _ := read(i); again != text {
				t.Fatalf("home %d: %.20q behind a change of what was told", i, again)
			}
		}
	}
	spoil(change.Read)
	says(t, change.Commit(), api.OK)
	spoil(change.Read)
	spoil(b.changes[1].got.Read)
	spoil(b.log.Read)
}

// act: a drawn act, of a drawn change or of the log itself.
func (b *bench) act(source *rand.Rand, n int) {
	k, homes := source.Intn(len(b.changes)), len(b.want.homes)
	text := strings.Repeat(fmt.Sprint(n, " "), 1+source.Intn(40))
	switch source.Intn(16) {
	case 0, 1:
		b.commit(k)
	case 2:
		b.drop(k)
	case 3, 4:
		b.back(k, source.Intn(len(b.changes[k].want.puts)+3)-1)
	case 5:
		b.put(api.Put{At: source.Intn(homes), Text: text}, api.Put{At: source.Intn(homes), Text: "both"})
	case 6:
		if b.want.down {
			return
		}
		says(b.t, b.log.Checkpoint(), api.OK)
		b.check()
	case 7:
		b.write(k, source.Intn(homes), strings.Repeat("w", 500+source.Intn(20)))
	default:
		b.write(k, source.Intn(homes+2)-1, text)
	}
}

// P6.1, P6.2: drawn acts, with one change, with two and with more of one log, to its going down and behind it.
func TestDrawnActs(t *testing.T) {
	for _, changes := range []int{1, 2, 5} {
		for _, ring := range []int{4, 7, 12} {
			for seed := range 40 {
				source := rand.New(rand.NewSource(int64(seed)))
				b := laid(t, ring, 1+source.Intn(9), changes)
				for n := range 120 {
					b.act(source, n)
				}
				b.bringDown()
				for n := range 20 {
					b.act(source, n)
				}
			}
		}
	}
}

// P0: many puts, and Back from far to near, end soon.
func TestEndsSoon(t *testing.T) {
	start := time.Now()
	b := laid(t, 256, 300, 1)
	change := b.changes[0].got
	text := strings.Repeat("e", 512)
	for k := range 200000 {
		says(t, change.Write(k%200, text), api.OK)
		change.Read(k % 200)
		change.Touched()
	}
	for mark := 200000; mark > 100000; mark-- {
		change.Back(mark)
	}
	says(t, change.Commit(), api.OK)
	if took := time.Since(start); took > time.Minute {
		t.Errorf("%v", took)
	}
}

// The document's example.
func TestExample(t *testing.T) {
	b := laid(t, 8, 4, 1)
	change := b.changes[0].got
	says(t, change.Write(1, "a"), api.OK)
	mark := change.Mark()
	says(t, change.Write(1, "b"), api.OK)
	change.Back(mark)
	holds(t, change.Read, 1, padded("a"), api.OK)
}
