package wal_test

import (
	"fmt"
	"math"
	"math/rand"
	"slices"
	"strings"
	"testing"
	"time"
	"unsafe"

	"cooperage/api"
	"cooperage/sector"
	"cooperage/wal"
)

// homes: what each home of a log holds, in the document's words.
type homes []string

func noughts(n int) homes {
	return slices.Repeat(homes{padded("")}, n)
}

// with: these homes, behind a group.
func (h homes) with(lists ...[]api.Put) homes {
	then := slices.Clone(h)
	for _, put := range slices.Concat(lists...) {
		then[put.At] = padded(put.Text)
	}
	return then
}

// padded: s with bytes 0 behind it, to 512.
func padded(s string) string {
	return s + strings.Repeat("\x00", 512-len(s))
}

// sizeOf: of a group of n unlike homes: 1 and the least whole number that isn't below 516 n / 511.
func sizeOf(n int) int {
	least := 0
	for least*511 < 516*n {
		least++
	}
	return 1 + least
}

// most: how many unlike homes a group may have, by the ring.
func most(ring int) int {
	n := 0
	for sizeOf(n+1) <= ring {
		n++
	}
	return n
}

// rise: a put to each of n homes, from home from on.
func rise(from, n int, text string) []api.Put {
	var list []api.Put
	for i := range n {
		list = append(list, api.Put{At: from + i, Text: fmt.Sprint(text, " ", from+i)})
	}
	return list
}

func newDisk(t *testing.T, n int) *sector.Disk {
	t.Helper()
	d, e := sector.New(n)
	if e != api.OK {
		t.Fatalf("a disk of %d: %d", n, e)
	}
	return d
}

func opened(t *testing.T, d *sector.Disk, ring int) *wal.Log {
	t.Helper()
	l, e := wal.Open(d, ring)
	if l == nil || e != api.OK {
		t.Fatalf("Open with a ring of %d: %v, %d", ring, l, e)
	}
	return l
}

// fresh: a log on a disk of noughts, with so many homes.
func fresh(t *testing.T, ring, homes int) (*sector.Disk, *wal.Log) {
	t.Helper()
	d := newDisk(t, 1+ring+homes)
	return d, opened(t, d, ring)
}

// says: that a call answered as it should.
func says(t *testing.T, got, want api.Errno) {
	t.Helper()
	if got != want {
		t.Errorf("%d, not %d", got, want)
	}
}

// refused: that Open answers so, and no log.
func refused(t *testing.T, d *sector.Disk, ring int, want api.Errno) {
	t.Helper()
	if l, e := wal.Open(d, ring); l != nil || e != want {
		t.Errorf("Open of %d sectors with a ring of %d: %v, %d, not %d", d.Size(), ring, l, e, want)
	}
}

// unlike: what differs in what a log's homes hold; "" if nothing does.
func unlike(l *wal.Log, want homes) string {
	if l.Homes() != len(want) {
		return fmt.Sprintf("%d homes, not %d", l.Homes(), len(want))
	}
	for i, text := range want {
		if got, e := l.Read(i); got != text || e != api.OK {
			return fmt.Sprintf("home %d: %d bytes %.20q, %d, not %.20q", i, len(got), got, e, text)
		}
	}
	return ""
}

// holds: that a log's homes hold that.
func holds(t *testing.T, l *wal.Log, want homes) {
	t.Helper()
	if wrong := unlike(l, want); wrong != "" {
		t.Fatal(wrong)
	}
}

// stays: that the homes hold that here, and behind each Open, with falls between.
func stays(t *testing.T, d *sector.Disk, l *wal.Log, ring int, want homes) {
	t.Helper()
	holds(t, l, want)
	holds(t, opened(t, d, ring), want)
	for _, keep := range [][]bool{nil, slices.Repeat([]bool{true}, 100)} {
		d.Fall(keep)
		holds(t, opened(t, d, ring), want)
	}
}

// isDown: that each call of a log says that it is down, whatever else would apply.
func isDown(t *testing.T, l *wal.Log) {
	t.Helper()
	if !l.Down() {
		t.Error("not down")
	}
	for _, i := range places(l.Homes()) {
		if got, e := l.Read(i); got != "" || e != api.ErrDown {
			t.Errorf("down, Read(%d): %.20q, %d", i, got, e)
		}
		for _, n := range []int{0, 512, 513} {
			if e := l.Commit([]api.Put{{At: i, Text: strings.Repeat("d", n)}}); e != api.ErrDown {
				t.Errorf("down, Commit to %d of %d bytes: %d", i, n, e)
			}
		}
	}
	says(t, l.Commit(), api.ErrDown)
	says(t, l.Commit(nil, []api.Put{}), api.ErrDown)
	says(t, l.Commit(rise(0, 5000, "many")), api.ErrDown)
	says(t, l.Checkpoint(), api.ErrDown)
}

// places: numbers of homes, of n, and numbers that are of none.
func places(n int) []int {
	return []int{math.MinInt, -n, -1, 0, n / 2, n - 1, n, n + 1, 65536, 1 << 32, math.MaxInt}
}

// broken: that the disk goes down in this act, at once.
func broken(t *testing.T, d *sector.Disk, act func() api.Errno) {
	t.Helper()
	d.Fuel(0)
	says(t, act(), api.ErrDown)
}

// P5.1, Open: ErrArg of what is no ring, ahead of all else.
func TestOpenRefusesOtherRings(t *testing.T) {
	rings := []int{math.MinInt, -4096, -4, -1, 0, 1, 2, 3, 4097, 4098, 8192, 65536, 1<<32 + 8, math.MaxInt - 1, math.MaxInt}
	for _, ring := range rings {
		d := newDisk(t, 6000)
		refused(t, d, ring, api.ErrArg)
		says(t, d.Write(0, "foreign"), api.OK)
		refused(t, d, ring, api.ErrArg)
		broken(t, d, d.Flush)
		refused(t, d, ring, api.ErrArg)
		refused(t, nil, ring, api.ErrArg)
	}
	for _, ring := range []int{4, 5, 8, 4095, 4096} {
		_, l := fresh(t, ring, 6000-1-ring)
		holds(t, l, noughts(6000-1-ring))
	}
}

// P5.1, Open: a disk has at least two sectors more than the ring.
func TestOpenNeedsTwoSectorsMore(t *testing.T) {
	for _, ring := range []int{4, 5, 8, 256, 4095, 4096} {
		for _, n := range []int{1, 2, ring - 1, ring, ring + 1} {
			d := newDisk(t, n)
			refused(t, d, ring, api.ErrArg)
			broken(t, d, d.Flush)
			refused(t, d, ring, api.ErrArg)
		}
		for _, more := range []int{2, 3, 4} {
			d := newDisk(t, ring+more)
			l := opened(t, d, ring)
			holds(t, l, noughts(more-1))
			says(t, l.Commit(rise(0, 1, "home")), api.OK)
			stays(t, d, l, ring, noughts(more-1).with(rise(0, 1, "home")))
		}
	}
	refused(t, nil, 8, api.ErrArg)
	refused(t, &sector.Disk{}, 8, api.ErrArg)
}

// P5.1, Open: of a disk that is down, whatever stands on it.
func TestOpenOfDiskThatIsDown(t *testing.T) {
	for _, text := range []string{"", "foreign"} {
		d := newDisk(t, 20)
		says(t, d.Write(0, text), api.OK)
		broken(t, d, d.Flush)
		for range 2 {
			refused(t, d, 8, api.ErrDown)
		}
		d.Fall(nil)
		stays(t, d, opened(t, d, 8), 8, noughts(11))
	}
}

// P5.1, Homes: the disk's sectors without the first one and the ring, of a log that is down, too.
func TestHomes(t *testing.T) {
	for _, c := range [][2]int{{6, 4}, {7, 4}, {20, 8}, {265, 256}, {4098, 4096}, {65536, 4}, {65536, 4096}} {
		d := newDisk(t, c[0])
		l := opened(t, d, c[1])
		for range 2 {
			if l.Homes() != c[0]-1-c[1] {
				t.Errorf("%d homes of %d sectors with a ring of %d", l.Homes(), c[0], c[1])
			}
			d.Fuel(0)
			l.Commit(rise(0, 1, "home"))
		}
	}
}

// P5.1, Read: of a disk of noughts; ErrRange of what is no home's number, and just there.
func TestOnlyHomesAreReadAndPut(t *testing.T) {
	for _, n := range []int{1, 2, 11, 300} {
		_, l := fresh(t, 8, n)
		for _, i := range places(n) {
			want, before, behind := api.ErrRange, "", ""
			if i >= 0 && i < n {
				want, before, behind = api.OK, padded(""), padded("put")
			}
			if got, e := l.Read(i); e != want || got != before {
				t.Errorf("%d homes, Read(%d): %.20q, %d", n, i, got, e)
			}
			says(t, l.Commit([]api.Put{{At: i, Text: "put"}}), want)
			if got, e := l.Read(i); e != want || got != behind {
				t.Errorf("%d homes, Read(%d) behind Commit: %.20q, %d", n, i, got, e)
			}
			says(t, l.Commit([]api.Put{{At: i}}), want)
		}
	}
}

// P5.1, Commit: no list and empty lists change nothing, however often.
func TestEmptyGroups(t *testing.T) {
	d, l := fresh(t, 4, 5)
	want := noughts(5)
	for k := range 50 {
		says(t, l.Commit(), api.OK)
		says(t, l.Commit(nil), api.OK)
		says(t, l.Commit([]api.Put{}, nil, []api.Put{}), api.OK)
		stays(t, d, l, 4, want)
		l = opened(t, d, 4)
		if k%5 == 4 {
			put := rise(k%3, 2, fmt.Sprint(k))
			says(t, l.Commit(nil, put, nil), api.OK)
			want = want.with(put)
		}
	}
}

// P5.1, Commit: a group is of its own homes alone, and of several puts to one home the last one counts, in one list and in several.
func TestLastPutOfHomeCounts(t *testing.T) {
	for _, lists := range [][][]api.Put{
		{{{At: 2, Text: "a"}}},
		{{{At: 2, Text: "a"}, {At: 2, Text: "bb"}}},
		{{{At: 2, Text: "bb"}, {At: 2, Text: "a"}}},
		{{{At: 2, Text: "long"}, {At: 2}}},
		{{{At: 2, Text: "a"}}, {{At: 2, Text: "bb"}}},
		{{{At: 2, Text: "bb"}}, nil, {{At: 2, Text: "a"}}},
		{{{At: 4, Text: "a"}, {At: 0, Text: "b"}}, {{At: 0, Text: "c"}, {At: 3, Text: "d"}}, {{At: 4, Text: "e"}, {At: 4, Text: "f"}}},
		{rise(0, 5, "all"), rise(0, 5, "anew")},
	} {
		d, l := fresh(t, 8, 5)
		says(t, l.Commit(rise(0, 5, "before")), api.OK)
		says(t, l.Commit(lists...), api.OK)
		want := noughts(5).with(rise(0, 5, "before")).with(lists...)
		holds(t, l, want)
		says(t, l.Checkpoint(), api.OK)
		stays(t, d, l, 8, want)
	}
}

// P5.1, Commit: texts of up to 512 bytes, with noughts behind them, of any bytes; of more bytes nothing is put.
func TestTextsOfEachLength(t *testing.T) {
	full := strings.Repeat("\xff", 512)
	for _, checkpoint := range []bool{false, true} {
		for _, n := range []int{0, 1, 2, 255, 510, 511, 512} {
			text := ""
			for i := range n {
				text += string([]byte{byte(255 - i)})
			}
			d, l := fresh(t, 8, 3)
			says(t, l.Commit([]api.Put{{At: 0, Text: full}, {At: 1, Text: full}, {At: 2, Text: full}}), api.OK)
			says(t, l.Commit([]api.Put{{At: 1, Text: text}}), api.OK)
			if checkpoint {
				says(t, l.Checkpoint(), api.OK)
			}
			stays(t, d, l, 8, homes{full, padded(text), full})
		}
	}
	for _, n := range []int{513, 514, 1024, 1 << 20} {
		d, l := fresh(t, 8, 3)
		says(t, l.Commit([]api.Put{{At: 0, Text: "a"}, {At: 1, Text: strings.Repeat("a", n)}}), api.ErrBig)
		stays(t, d, l, 8, noughts(3))
	}
}

// R1: of several answers the first one in the chapter's order: of the puts, one behind the other, then of the whole group.
func TestErrorsComeInOrder(t *testing.T) {
	long := strings.Repeat("l", 513)
	many := rise(0, 7, "many")
	d, l := fresh(t, 8, 11)
	d.Fuel(0)
	for _, c := range []struct {
		lists [][]api.Put
		want  api.Errno
	}{
		{[][]api.Put{{{At: 11, Text: long}}}, api.ErrRange},
		{[][]api.Put{{{At: -1, Text: long}}}, api.ErrRange},
		{[][]api.Put{{{At: 10, Text: long}}}, api.ErrBig},
		{[][]api.Put{{{At: 0, Text: long}, {At: 11}}}, api.ErrBig},
		{[][]api.Put{{{At: 11}, {At: 0, Text: long}}}, api.ErrRange},
		{[][]api.Put{{{At: 0, Text: long}}, {{At: 11}}}, api.ErrBig},
		{[][]api.Put{{{At: 11}}, {{At: 0, Text: long}}}, api.ErrRange},
		{[][]api.Put{{{At: 0, Text: long}}, {{At: 0, Text: "short"}}}, api.ErrBig},
		{[][]api.Put{many}, api.ErrBig},
		{[][]api.Put{many, {{At: 11}}}, api.ErrRange},
		{[][]api.Put{many, {{At: -1, Text: long}}}, api.ErrRange},
		{[][]api.Put{many[:3], many[2:]}, api.ErrBig},
		{[][]api.Put{many, {{At: 0, Text: long}}, {{At: 11}}}, api.ErrBig},
	} {
		if e := l.Commit(c.lists...); e != c.want {
			t.Errorf("%v: %d, not %d", c.lists, e, c.want)
		}
	}
	if l.Down() {
		t.Error("down, by groups that were refused")
	}
	says(t, l.Commit(many[:6]), api.ErrDown)
	isDown(t, l)
}

// P5.1, Commit: a group of just the size that the ring has, at each place of the ring, and one of more.
func TestGroupOfRingsSize(t *testing.T) {
	for _, ring := range []int{4, 5, 6, 7, 8, 9, 50, 104, 105, 106, 107, 256, 517, 518, 519, 520} {
		n := most(ring)
		d, l := fresh(t, ring, n+2)
		want := noughts(n + 2)
		for k := range min(2*ring, 40) {
			says(t, l.Commit(rise(k%3, n, fmt.Sprint("just ", k))), api.OK)
			want = want.with(rise(k%3, n, fmt.Sprint("just ", k)))
			holds(t, l, want)
			says(t, l.Commit(rise(k%2, n+1, "more")), api.ErrBig)
			says(t, l.Commit(rise(0, n, "more"), rise(1, n, "more")), api.ErrBig)
			says(t, l.Commit(rise(0, 1+k%2, fmt.Sprint("few ", k))), api.OK)
			want = want.with(rise(0, 1+k%2, fmt.Sprint("few ", k)))
			holds(t, opened(t, d, ring), want)
		}
		stays(t, d, l, ring, want)
	}
}

// P5.1, Commit: the size hangs on unlike homes alone, not on how many puts there are.
func TestSizeIsOfUnlikeHomes(t *testing.T) {
	d, l := fresh(t, 4, 5)
	var list []api.Put
	for k := range 1000 {
		list = append(list, api.Put{At: 1 + k%2, Text: fmt.Sprint("put ", k)})
	}
	says(t, l.Commit(list, list[:500], nil, list), api.OK)
	stays(t, d, l, 4, noughts(5).with([]api.Put{{At: 1, Text: "put 998"}, {At: 2, Text: "put 999"}}))
	says(t, l.Commit(list, []api.Put{{At: 3}}), api.ErrBig)
}

// R3: a Commit that is refused changes no home, here and behind Open, and not what comes behind it.
func TestRefusedCommitChangesNothing(t *testing.T) {
	long := strings.Repeat("l", 513)
	d, l := fresh(t, 8, 11)
	want := noughts(11)
	for k := range 30 {
		good := rise(k%8, 3, fmt.Sprint("good ", k))
		for _, bad := range [][]api.Put{
			{{At: 0, Text: "bad"}, {At: 11}},
			{{At: 0, Text: "bad"}, {At: -1}},
			{{At: 0, Text: "bad"}, {At: 1, Text: long}},
			rise(0, 7, "bad"),
		} {
			says(t, l.Commit(good, bad, good), l.Commit(bad))
			if l.Commit(bad) == api.OK {
				t.Errorf("%v isn't refused", bad)
			}
			holds(t, l, want)
			holds(t, opened(t, d, 8), want)
		}
		says(t, l.Commit(good), api.OK)
		want = want.with(good)
	}
	stays(t, d, l, 8, want)
}

// P5.1, Checkpoint: of nothing, behind a group, and twice: nothing changes of what the homes hold.
func TestCheckpointChangesNoHome(t *testing.T) {
	d, l := fresh(t, 8, 11)
	want := noughts(11)
	for k := range 40 {
		for range k % 3 {
			says(t, l.Checkpoint(), api.OK)
			stays(t, d, l, 8, want)
		}
		put := rise(k%6, 1+k%5, fmt.Sprint("round ", k))
		says(t, l.Commit(put), api.OK)
		want = want.with(put)
		if k%2 == 0 {
			says(t, l.Checkpoint(), api.OK)
		}
		stays(t, d, l, 8, want)
	}
}

// P5.1: so many groups that the ring goes round many times, with and without Checkpoint and Open between them.
func TestRingGoesRound(t *testing.T) {
	for _, ring := range []int{4, 5, 6, 7, 8, 13, 64} {
		for _, every := range []int{0, 1, 2, 3, 7} {
			source := rand.New(rand.NewSource(int64(ring)))
			n := most(ring) + 3
			d, l := fresh(t, ring, n)
			want := noughts(n)
			for k := range min(50*ring, 400) {
				put := drawnGroup(source, n, most(ring), k)
				if e := l.Commit(put); e != api.OK {
					t.Fatalf("ring %d, group %d: %d", ring, k, e)
				}
				want = want.with(put)
				if every > 0 && k%every == 0 {
					says(t, l.Checkpoint(), api.OK)
				}
				if every > 0 && k%(every+4) == 0 {
					l = opened(t, d, ring)
				}
				if k%ring == 0 {
					holds(t, l, want)
				}
			}
			stays(t, d, l, ring, want)
		}
	}
}

// drawnGroup: puts to at most so many unlike homes of n, some of them several times.
func drawnGroup(source *rand.Rand, n, unlike, k int) []api.Put {
	var list []api.Put
	for _, i := range source.Perm(n)[:1+source.Intn(unlike)] {
		for range 1 + source.Intn(2) {
			list = append(list, api.Put{At: i, Text: drawnText(source, k)})
		}
	}
	source.Shuffle(len(list), func(i, j int) { list[i], list[j] = list[j], list[i] })
	return list
}

func drawnText(source *rand.Rand, k int) string {
	text := fmt.Sprint(k, " ", source.Intn(100))
	if source.Intn(3) == 0 {
		text = strings.Repeat(text, 512/len(text))
	}
	if source.Intn(4) == 0 {
		text += strings.Repeat("\xff", 512-len(text))
	}
	return text
}

// P5.1, ErrLost: what no log with this ring left there, as far as it is found; nothing of it is changed.
func TestOpenFindsWhatNoLogLeft(t *testing.T) {
	all := strings.Repeat("x", 512)
	last := strings.Repeat("\x00", 511) + "\x01"
	for _, c := range []struct {
		at   int
		text string
	}{
		{0, "x"}, {0, all}, {0, last}, {0, strings.Repeat("\xff", 512)}, {0, "\x00\x00x"},
		{1, "x"}, {1, all}, {1, last}, {8, "x"}, {8, last}, {9, "x"}, {9, last}, {19, "x"}, {19, last},
	} {
		d := newDisk(t, 20)
		says(t, d.Write(c.at, c.text), api.OK)
		lost(t, d, 8)
		says(t, d.Flush(), api.OK)
		lost(t, d, 8)
	}
	d := newDisk(t, 20)
	for i := range 20 {
		says(t, d.Write(i, all), api.OK)
	}
	lost(t, d, 8)
}

// lost: that Open answers ErrLost, and leaves the disk as it was, what is loose on it, too.
func lost(t *testing.T, d *sector.Disk, ring int) {
	t.Helper()
	before, loose := sectors(d), d.Loose()
	refused(t, d, ring, api.ErrLost)
	if !slices.Equal(sectors(d), before) || !slices.Equal(d.Loose(), loose) || d.Down() {
		t.Error("what was lost is changed")
	}
}

// sectors: what each sector of a disk holds.
func sectors(d *sector.Disk) []string {
	var list []string
	for i := range d.Size() {
		s, _ := d.Read(i)
		list = append(list, s)
	}
	return list
}

// P5.1, ErrLost: a log of another ring; of its own ring the log is there still.
func TestOpenFindsLogOfAnotherRing(t *testing.T) {
	for _, groups := range []int{1, 2, 9} {
		for _, ring := range []int{4, 5, 7, 8, 9, 12, 18} {
			d, l := fresh(t, 8, 11)
			want := noughts(11)
			for k := range groups {
				put := rise(k%7, 4, fmt.Sprint("group ", k))
				says(t, l.Commit(put), api.OK)
				want = want.with(put)
			}
			if ring != 8 {
				lost(t, d, ring)
				says(t, l.Checkpoint(), api.OK)
				lost(t, d, ring)
			}
			stays(t, d, l, 8, want)
		}
	}
}

// P5.1, ErrLost: a log that somebody has written over, in the first sector or in the ring, in what counts or elsewhere.
func TestOpenFindsSpoiltLog(t *testing.T) {
	for groups := range 6 {
		for at := range 9 {
			for _, text := range []string{"\x01", "x" + strings.Repeat("\xff", 511), strings.Repeat("\x00", 511) + "x"} {
				d, l := fresh(t, 8, 11)
				for k := range groups {
					says(t, l.Commit(rise(k, 2, "group")), api.OK)
				}
				says(t, d.Write(at, text), api.OK)
				lost(t, d, 8)
			}
		}
	}
}

// spot: a few bytes of a sector.
type spot struct {
	sector, at int
	bytes      string
}

// spoilt: that Open finds each of these spots, if the bytes there are these; a log with so many groups, and a Checkpoint behind them or none.
func spoilt(t *testing.T, groups int, checkpoint bool, spots []spot) {
	t.Helper()
	for _, c := range spots {
		s := laid(t, 8, groups, checkpoint)
		before, _ := s.disk.Read(c.sector)
		says(t, s.disk.Write(c.sector, before[:c.at]+c.bytes+before[c.at+len(c.bytes):]), api.OK)
		lost(t, s.disk, 8)
		says(t, s.disk.Write(c.sector, before), api.OK)
		stays(t, s.disk, s.log, 8, s.held)
	}
}

// P5.1, ErrLost: a log on which a few bytes are others, by how this program lays it out: the first sector; a group's head; its puts.
func TestOpenFindsSpoiltBytes(t *testing.T) {
	gone := strings.Repeat("\x00", 512)
	first := []spot{
		{0, 0, "!"}, {0, 13, "!"}, {0, 14, "!"}, {0, 21, "\x15"}, {0, 22, "!"}, {0, 29, "\x09"},
		{0, 30, "!"}, {0, 37, "\x08"}, {0, 45, "\x00"}, {0, 46, "!"}, {0, 511, "!"},
	}
	head := []spot{
		{0, 0, gone}, {1, 0, "!"}, {1, 0, "\x00"}, {1, 8, "\x00"}, {1, 8, "\x09"}, {1, 1, "\xff"},
		{1, 12, "\x00"}, {1, 12, "\x07"}, {1, 9, "\xff"}, {1, 13, "!"}, {1, 511, "!"},
	}
	counts := []spot{
		{0, 37, "\x05"}, {1, 8, "\x02"}, {1, 12, "\x02"}, {1, 12, "\x03"},
		{2, 0, "!"}, {2, 0, gone}, {2, 1, "!"}, {2, 4, "\x0b"}, {2, 4, "\xff"},
		{3, 0, "!"}, {3, 0, gone}, {3, 6, "!"}, {3, 511, "!"},
		{5, 0, gone}, {5, 4, "\x0b"}, {6, 9, "\x01"}, {6, 9, "\x00"}, {6, 9, "\x0b"}, {7, 0, gone}, {7, 11, "!"}, {7, 511, "!"},
		{8, 0, "!"}, {8, 0, "h"}, {8, 511, "!"},
	}
	spoilt(t, 0, false, first)
	spoilt(t, 1, true, slices.Concat(first, head))
	spoilt(t, 1, false, []spot{{0, 37, "\x05"}})
	spoilt(t, 2, false, slices.Concat(first, head, counts))
}

// P5.1, ErrLost: a log of a disk of another size.
func TestOpenFindsLogOfAnotherDisk(t *testing.T) {
	from, l := fresh(t, 8, 11)
	says(t, l.Commit(rise(0, 2, "group")), api.OK)
	for _, n := range []int{10, 19, 20, 21, 40} {
		d := newDisk(t, n)
		for i, s := range sectors(from)[:min(n, 20)] {
			says(t, d.Write(i, s), api.OK)
		}
		if n != 20 {
			lost(t, d, 8)
			continue
		}
		// What Open found is firm, though nobody has flushed it.
		holds(t, opened(t, d, 8), noughts(11).with(rise(0, 2, "group")))
		d.Fall(nil)
		holds(t, opened(t, d, 8), noughts(11).with(rise(0, 2, "group")))
	}
}

// P5.1: what is put may be what a log writes itself, at each place of the ring: by how this program lays it out the last sector of a group of three puts ends with what ends the last text.
func TestTextThatLooksLikeHead(t *testing.T) {
	for number := range 12 {
		for n := range 4 {
			forged := strings.Repeat("x", 497) + strings.Repeat("\x00", 7) + string([]byte{byte(number), 0, 0, 0, byte(n)}) + "\x00\x00\x00"
			d, l := fresh(t, 8, 11)
			want := noughts(11)
			for k := range 24 {
				put := rise(k%5, 1+(k+2)%3, fmt.Sprint("group ", k))
				put[len(put)-1].Text = forged
				says(t, l.Commit(put), api.OK)
				want = want.with(put)
				says(t, l.Checkpoint(), api.OK)
				stays(t, d, l, 8, want)
			}
		}
	}
}

// P5.1: each call of a log whose disk has gone down says so, in whatever it went down, and goes on saying so when the disk is up again.
func TestDownLogStaysDown(t *testing.T) {
	put := rise(0, 2, "put")
	for _, act := range []func(l *wal.Log) api.Errno{
		func(l *wal.Log) api.Errno { return l.Commit(put) },
		func(l *wal.Log) api.Errno { return l.Checkpoint() },
	} {
		for fuel := range 20 {
			d, l := fresh(t, 8, 11)
			says(t, l.Commit(rise(3, 5, "before")), api.OK)
			if l.Down() {
				t.Fatal("down ahead of time")
			}
			d.Fuel(fuel)
			if act(l) == api.OK {
				if l.Down() {
					t.Errorf("fuel %d: down, and OK", fuel)
				}
				continue
			}
			isDown(t, l)
			before := sectors(d)
			d.Fall(nil)
			isDown(t, l)
			if l.Homes() != 11 || len(before) != 20 || len(d.Loose()) != 0 {
				t.Errorf("fuel %d: %d homes, loose %v", fuel, l.Homes(), d.Loose())
			}
			m := opened(t, d, 8)
			says(t, m.Commit(put), api.OK)
			isDown(t, l)
		}
	}
}

// R1, Down: of a disk that somebody else brought down.
func TestDiskBroughtDownByAnother(t *testing.T) {
	d, l := fresh(t, 8, 11)
	says(t, l.Commit(rise(0, 2, "put")), api.OK)
	broken(t, d, d.Flush)
	isDown(t, l)
}

// R2: what is answered of a nil log, and of one that Open didn't make, at any arguments.
func TestNilLog(t *testing.T) {
	for _, none := range []*wal.Log{nil, {}} {
		for range 2 {
			if none.Homes() != 0 {
				t.Errorf("%d homes", none.Homes())
			}
			isDown(t, none)
		}
	}
}

// R4: what is handed in isn't kept, nor changed; what is answered is the caller's own.
func TestNothingIsShared(t *testing.T) {
	for _, n := range []int{5, 511, 512} {
		for _, checkpoint := range []bool{false, true} {
			d, l := fresh(t, 8, 3)
			bytes := slices.Repeat([]byte{'a'}, n)
			list := []api.Put{{At: 2, Text: unsafe.String(&bytes[0], n)}, {At: 1, Text: "one"}, {At: 1, Text: "two"}}
			lists := [][]api.Put{list, nil}
			says(t, l.Commit(lists...), api.OK)
			if list[0].At != 2 || list[1] != (api.Put{At: 1, Text: "one"}) || list[2] != (api.Put{At: 1, Text: "two"}) || len(lists[1]) != 0 {
				t.Errorf("the lists are changed: %v", lists)
			}
			before, _ := l.Read(2)
			clear(bytes)
			clear(list)
			clear(lists)
			want := homes{padded(""), padded("two"), padded(strings.Repeat("a", n))}
			holds(t, l, want)
			if checkpoint {
				says(t, l.Checkpoint(), api.OK)
			}
			stays(t, d, l, 8, want)
			again, _ := l.Read(2)
			if unsafe.StringData(before) == unsafe.StringData(again) {
				t.Error("two answers share their bytes")
			}
			says(t, l.Commit([]api.Put{{At: 2, Text: "b"}}), api.OK)
			says(t, l.Checkpoint(), api.OK)
			if before != want[2] || again != want[2] {
				t.Error("what was read has changed")
			}
		}
	}
}

// Two logs on two disks know nothing of each other.
func TestLogsAreApart(t *testing.T) {
	d, l := fresh(t, 8, 11)
	_, m := fresh(t, 8, 11)
	says(t, l.Commit(rise(0, 3, "one")), api.OK)
	holds(t, m, noughts(11))
	says(t, m.Commit(rise(1, 3, "other")), api.OK)
	holds(t, l, noughts(11).with(rise(0, 3, "one")))
	broken(t, d, func() api.Errno { return l.Commit(rise(0, 1, "down")) })
	says(t, m.Checkpoint(), api.OK)
	holds(t, m, noughts(11).with(rise(1, 3, "other")))
}

// R7: the same acts are answered the same again, and leave the same, the order of what is loose, too.
func TestSameActsSameAnswers(t *testing.T) {
	run := func() []string {
		source := rand.New(rand.NewSource(7))
		d, l := fresh(t, 20, 40)
		var told []string
		for k := range 300 {
			d.Fuel(source.Intn(60))
			e := l.Commit(drawnGroup(source, 40, most(20), k))
			if source.Intn(5) == 0 {
				e = l.Checkpoint()
			}
			s, f := l.Read(source.Intn(42) - 1)
			told = append(told, fmt.Sprint(e, s, f, l.Down(), d.Loose()))
			if d.Down() {
				d.Fall(drawnKeep(source, len(d.Loose())))
				l = opened(t, d, 20)
			}
		}
		return append(told, sectors(d)...)
	}
	if !slices.Equal(run(), run()) {
		t.Error("two runs differ")
	}
}

// P0: the greatest disk and the greatest ring, and groups that fill it: each call ends.
func TestCallsEnd(t *testing.T) {
	done := make(chan bool)
	go func() {
		defer close(done)
		d, _ := sector.New(65536)
		l, e := wal.Open(d, 4096)
		n := most(4096)
		for k := range 5 {
			if e == api.OK {
				e = l.Commit(rise(1000*k, n, fmt.Sprint("round ", k)))
			}
			if e != api.OK || l.Commit(rise(0, n+1, "more")) != api.ErrBig {
				t.Errorf("round %d: %d", k, e)
				return
			}
			l, e = wal.Open(d, 4096)
		}
		for k := range 5 {
			if s, _ := l.Read(1000 * k); s != padded(fmt.Sprintf("round %d %d", k, 1000*k)) {
				t.Errorf("home %d: %.20q", 1000*k, s)
			}
		}
	}()
	select {
	case <-done:
	case <-time.After(time.Minute):
		t.Fatal("a call doesn't end")
	}
}
