package sector

import (
	"fmt"
	"math"
	"math/rand"
	"slices"
	"strings"
	"testing"
	"time"
	"unsafe"

	"cooperage/api"
)

// slowDisk: a disk in the document's own words: firm contents, and a list of writes that is gone through at each read.
type slowDisk struct {
	firm    []string
	writes  []slowWrite
	down    bool
	limited bool
	steps   int // still, if limited
}

type slowWrite struct {
	at   int
	text string
}

func newSlow(n int) *slowDisk {
	m := &slowDisk{}
	for range n {
		m.firm = append(m.firm, padded(""))
	}
	return m
}

func (m *slowDisk) read(i int) (string, api.Errno) {
	if m.down {
		return "", api.ErrDown
	}
	if i < 0 || i >= len(m.firm) {
		return "", api.ErrRange
	}
	return m.last(i), api.OK
}

// last: what was written to sector i last, or its firm content.
func (m *slowDisk) last(i int) string {
	for k := len(m.writes) - 1; k >= 0; k-- {
		if m.writes[k].at == i {
			return m.writes[k].text
		}
	}
	return m.firm[i]
}

func (m *slowDisk) write(i int, s string) api.Errno {
	switch {
	case m.down:
		return api.ErrDown
	case i < 0 || i >= len(m.firm):
		return api.ErrRange
	case len(s) > 512:
		return api.ErrBig
	case m.limited && m.steps == 0:
		m.down = true
		return api.ErrDown
	}
	m.steps--
	m.writes = append(m.writes, slowWrite{i, padded(s)})
	return api.OK
}

func (m *slowDisk) flush() api.Errno {
	if m.down {
		return api.ErrDown
	}
	if m.limited && m.steps == 0 {
		m.down = true
		return api.ErrDown
	}
	m.steps--
	for _, w := range m.writes {
		m.firm[w.at] = w.text
	}
	m.writes = nil
	return api.OK
}

func (m *slowDisk) fuel(n int) {
	m.limited, m.steps = n >= 0, n
}

func (m *slowDisk) loose() []int {
	var told []int
	for _, w := range m.writes {
		told = append(told, w.at)
	}
	return told
}

func (m *slowDisk) fall(keep []bool) {
	for k := 0; k < len(m.writes) && k < len(keep); k++ {
		if keep[k] {
			m.firm[m.writes[k].at] = m.writes[k].text
		}
	}
	m.writes, m.down, m.limited = nil, false, false
}

// padded: s with bytes 0 behind it, to 512.
func padded(s string) string {
	return s + strings.Repeat("\x00", 512-len(s))
}

// made: a disk of n sectors.
func made(t *testing.T, n int) *Disk {
	t.Helper()
	d, e := New(n)
	if d == nil || e != api.OK {
		t.Fatalf("New(%d): %v, %d", n, d, e)
	}
	return d
}

// says: that a call answered as it should.
func says(t *testing.T, got, want api.Errno) {
	t.Helper()
	if got != want {
		t.Errorf("%d, not %d", got, want)
	}
}

// holds: that the disk's sectors are read as these texts with bytes 0 behind them, from the first one on.
func holds(t *testing.T, d *Disk, texts ...string) {
	t.Helper()
	for i, text := range texts {
		if got, e := d.Read(i); e != api.OK || got != padded(text) {
			t.Errorf("sector %d: %d bytes %.20q, %d, not %.20q", i, len(got), got, e, text)
		}
	}
}

// isDown: that the disk is down, and that its calls say so, whatever else would apply.
func isDown(t *testing.T, d *Disk) {
	t.Helper()
	if !d.Down() {
		t.Error("not down")
	}
	for _, i := range places(d.Size()) {
		if got, e := d.Read(i); got != "" || e != api.ErrDown {
			t.Errorf("down, Read(%d): %.20q, %d", i, got, e)
		}
		for _, n := range []int{0, 1, 512, 513} {
			if e := d.Write(i, strings.Repeat("d", n)); e != api.ErrDown {
				t.Errorf("down, Write(%d) of %d bytes: %d", i, n, e)
			}
		}
	}
	if e := d.Flush(); e != api.ErrDown {
		t.Errorf("down, Flush: %d", e)
	}
}

// goesOn: that the disk is up, and does many steps.
func goesOn(t *testing.T, d *Disk) {
	t.Helper()
	for k := range 3000 {
		if e := d.Write(0, fmt.Sprint("step ", k)); e != api.OK {
			t.Fatalf("Write %d: %d", k, e)
		}
		if e := d.Flush(); e != api.OK {
			t.Fatalf("Flush %d: %d", k, e)
		}
	}
	if d.Down() {
		t.Error("down")
	}
	holds(t, d, "step 2999")
}

// places: numbers of sectors of a disk of n, and numbers that are of none.
func places(n int) []int {
	return []int{math.MinInt, -n, -1, 0, n / 2, n - 1, n, n + 1, 65536, 1 << 32, math.MaxInt}
}

// P4.1, New: of what is no number of a disk's sectors.
func TestNewRefusesOtherNumbers(t *testing.T) {
	for _, n := range []int{0, -1, -2, -65536, 65537, 65538, 1 << 20, 1 << 32, 1<<32 + 1, math.MinInt, math.MaxInt} {
		if d, e := New(n); d != nil || e != api.ErrArg {
			t.Errorf("New(%d): %v, %d", n, d, e)
		}
	}
}

// P4.1, New: sectors of noughts, nothing loose, up, without a limit.
func TestNewDiskIsOfNoughts(t *testing.T) {
	for _, n := range []int{1, 2, 3, 511, 512, 513, 65535, 65536} {
		d := made(t, n)
		if d.Size() != n || d.Down() || len(d.Loose()) != 0 {
			t.Errorf("New(%d): size %d, down %v, loose %v", n, d.Size(), d.Down(), d.Loose())
		}
		blank := padded("")
		for i := range n {
			if got, e := d.Read(i); got != blank || e != api.OK {
				t.Fatalf("New(%d), Read(%d): %.20q, %d", n, i, got, e)
			}
		}
		goesOn(t, d)
	}
}

// P4.1, Read and Write: ErrRange of what is no sector's number, and just there.
func TestOnlySectorsAreReadAndWritten(t *testing.T) {
	for _, n := range []int{1, 2, 3, 65536} {
		d := made(t, n)
		for _, i := range places(n) {
			want := api.ErrRange
			if i >= 0 && i < n {
				want = api.OK
			}
			if e := d.Write(i, "w"); e != want {
				t.Errorf("%d sectors, Write(%d): %d", n, i, e)
			}
			got, e := d.Read(i)
			if e != want || want == api.OK && got != padded("w") || want != api.OK && got != "" {
				t.Errorf("%d sectors, Read(%d): %.20q, %d", n, i, got, e)
			}
		}
	}
}

// P4.1, Write: a write is of its own sector alone.
func TestWriteChangesOneSector(t *testing.T) {
	d := made(t, 5)
	says(t, d.Write(2, "two"), api.OK)
	holds(t, d, "", "", "two", "", "")
	says(t, d.Flush(), api.OK)
	holds(t, d, "", "", "two", "", "")
	says(t, d.Write(0, "nought"), api.OK)
	says(t, d.Write(4, "four"), api.OK)
	holds(t, d, "nought", "", "two", "", "four")
	d.Fall([]bool{false, true})
	holds(t, d, "", "", "two", "", "four")
}

// P4.1, Write: texts of up to 512 bytes, with noughts behind them; of more bytes nothing is written.
func TestTextIsFilledUpToSector(t *testing.T) {
	full := strings.Repeat("\xff", 512)
	for _, n := range []int{0, 1, 2, 255, 256, 510, 511, 512} {
		d := made(t, 2)
		text := strings.Repeat("a", n)
		says(t, d.Write(0, full), api.OK)
		says(t, d.Write(1, full), api.OK)
		says(t, d.Flush(), api.OK)
		says(t, d.Write(0, text), api.OK)
		holds(t, d, text, full)
		if got := d.Loose(); !slices.Equal(got, []int{0}) {
			t.Errorf("loose %v", got)
		}
		d.Fall([]bool{true})
		holds(t, d, text, full)
	}
	for _, n := range []int{513, 514, 1024, 1 << 20} {
		d := made(t, 2)
		says(t, d.Write(0, "first"), api.OK)
		says(t, d.Write(0, strings.Repeat("a", n)), api.ErrBig)
		holds(t, d, "first", "")
		if got := d.Loose(); !slices.Equal(got, []int{0}) {
			t.Errorf("loose %v", got)
		}
	}
}

// P4.1, Write: any bytes.
func TestAnyBytesAreKept(t *testing.T) {
	all := make([]byte, 512)
	for i := range all {
		all[i] = byte(i)
	}
	d := made(t, 3)
	texts := []string{string(all), "\x00\x00a\x00", "\xff\xfe\x80\xc3\x28"}
	for i, text := range texts {
		says(t, d.Write(i, text), api.OK)
	}
	holds(t, d, texts...)
	says(t, d.Flush(), api.OK)
	holds(t, d, texts...)
	d.Fall(nil)
	holds(t, d, texts...)
}

// R1: of several answers that apply the first one in the chapter's order; what is refused takes no step.
func TestErrorsComeInOrder(t *testing.T) {
	big := strings.Repeat("b", 513)
	d := made(t, 2)
	says(t, d.Write(2, big), api.ErrRange)
	says(t, d.Write(-1, big), api.ErrRange)
	says(t, d.Write(1, big), api.ErrBig)
	d.Fuel(0)
	for range 3 {
		says(t, d.Write(2, "a"), api.ErrRange)
		says(t, d.Write(-1, big), api.ErrRange)
		says(t, d.Write(1, big), api.ErrBig)
		if _, e := d.Read(2); e != api.ErrRange {
			t.Errorf("Read(2): %d", e)
		}
	}
	if d.Down() {
		t.Error("down without a step")
	}
	says(t, d.Write(1, "a"), api.ErrDown)
	isDown(t, d)
}

// P4.1: a sector that is written several times between two flushes.
func TestLastWriteCounts(t *testing.T) {
	d := made(t, 2)
	for _, text := range []string{"a", "bb", "c", "", "dd", "e"} {
		says(t, d.Write(0, text), api.OK)
		holds(t, d, text, "")
	}
	says(t, d.Flush(), api.OK)
	holds(t, d, "e", "")
	d.Fall(nil)
	holds(t, d, "e", "")
	says(t, d.Write(0, "f"), api.OK)
	says(t, d.Write(1, "g"), api.OK)
	says(t, d.Write(0, "h"), api.OK)
	says(t, d.Flush(), api.OK)
	d.Fall([]bool{true, true, true})
	holds(t, d, "h", "g")
}

// P4.1, Read: of what is loose, of what is firm, of what was never written, and behind a fall.
func TestReadOfLooseFirmAndUnwritten(t *testing.T) {
	d := made(t, 3)
	says(t, d.Write(0, "firm"), api.OK)
	says(t, d.Flush(), api.OK)
	says(t, d.Write(1, "loose"), api.OK)
	holds(t, d, "firm", "loose", "")
	says(t, d.Write(0, "anew"), api.OK)
	holds(t, d, "anew", "loose", "")
	d.Fall(nil)
	holds(t, d, "firm", "", "")
}

// P4.1, Flush: what is loose is firm, however often, and of nothing, too.
func TestFlushMakesFirm(t *testing.T) {
	d := made(t, 3)
	says(t, d.Flush(), api.OK)
	holds(t, d, "", "", "")
	for round := range 5 {
		text := fmt.Sprint("round ", round)
		says(t, d.Write(round%3, text), api.OK)
		says(t, d.Write(2, text), api.OK)
		for range round + 1 {
			says(t, d.Flush(), api.OK)
			if len(d.Loose()) != 0 {
				t.Errorf("loose behind Flush: %v", d.Loose())
			}
		}
		says(t, d.Write(2, "lost"), api.OK)
		d.Fall(nil)
		holds(t, d, []string{"round 0", "round 0", "round 0", "round 3", "round 3"}[round], []string{"", "round 1", "round 1", "round 1", "round 4"}[round], text)
	}
}

// P4.1, Fuel: so many steps, be they writes or flushes; the one that finds none left brings the disk down, and does nothing.
func TestDiskDoesSoManySteps(t *testing.T) {
	for _, n := range []int{0, 1, 2, 3, 7, 100} {
		for flushEach := 1; flushEach <= 4; flushEach++ {
			d := made(t, 2)
			d.Fuel(n)
			loose := 0
			for k := range n {
				if k%flushEach == flushEach-1 {
					says(t, d.Flush(), api.OK)
					loose = 0
				} else {
					says(t, d.Write(1, fmt.Sprint(k)), api.OK)
					loose++
				}
			}
			if d.Down() {
				t.Errorf("Fuel(%d): down behind %d steps", n, n)
			}
			if n%2 == 0 {
				says(t, d.Flush(), api.ErrDown)
			} else {
				says(t, d.Write(0, "none left"), api.ErrDown)
			}
			isDown(t, d)
			if len(d.Loose()) != loose {
				t.Errorf("Fuel(%d): loose %v, not %d writes", n, d.Loose(), loose)
			}
			d.Fall(slices.Repeat([]bool{true}, 200))
			if got, _ := d.Read(0); got != padded("") {
				t.Errorf("Fuel(%d): written without a step: %.20q", n, got)
			}
		}
	}
}

// P4.1, Fuel: numbers below 0 set no limit, and take one away.
func TestFuelBelowZeroIsNoLimit(t *testing.T) {
	for _, n := range []int{-1, -2, -100, math.MinInt} {
		d := made(t, 1)
		d.Fuel(n)
		goesOn(t, d)
		d.Fuel(0)
		d.Fuel(n)
		goesOn(t, d)
	}
}

// P4.1, Fuel: n more steps from then on, whatever was left.
func TestLastFuelCounts(t *testing.T) {
	for _, before := range []int{-1, 0, 1, 2, 3, 10, math.MaxInt} {
		for _, n := range []int{0, 1, 2, 5} {
			d := made(t, 1)
			d.Fuel(before)
			if before != 0 {
				says(t, d.Write(0, "a"), api.OK)
			}
			d.Fuel(n)
			for range n {
				says(t, d.Flush(), api.OK)
			}
			says(t, d.Flush(), api.ErrDown)
			isDown(t, d)
		}
	}
	d := made(t, 1)
	d.Fuel(math.MaxInt)
	goesOn(t, d)
}

// P4.1: what isn't a step takes none.
func TestOtherCallsTakeNoStep(t *testing.T) {
	d := made(t, 2)
	d.Fuel(2)
	for range 20 {
		if d.Size() != 2 || d.Down() || len(d.Loose()) != 0 {
			t.Fatalf("size %d, down %v, loose %v", d.Size(), d.Down(), d.Loose())
		}
		holds(t, d, "", "")
		for _, i := range []int{-1, 2, math.MaxInt} {
			if _, e := d.Read(i); e != api.ErrRange {
				t.Errorf("Read(%d): %d", i, e)
			}
			says(t, d.Write(i, "a"), api.ErrRange)
		}
		says(t, d.Write(0, strings.Repeat("a", 513)), api.ErrBig)
	}
	says(t, d.Write(0, "a"), api.OK)
	says(t, d.Flush(), api.OK)
	if d.Down() {
		t.Error("down ahead of its third step")
	}
	says(t, d.Flush(), api.ErrDown)
}

// P4.1: a disk that is down stays so till it falls, whatever it is given; what was loose is so still.
func TestDownDiskWaitsForFall(t *testing.T) {
	d := made(t, 3)
	says(t, d.Write(0, "firm"), api.OK)
	says(t, d.Flush(), api.OK)
	d.Fuel(2)
	says(t, d.Write(2, "two"), api.OK)
	says(t, d.Write(0, "nought"), api.OK)
	says(t, d.Flush(), api.ErrDown)
	for _, n := range []int{-1, 0, 1, 100} {
		isDown(t, d)
		if got := d.Loose(); d.Size() != 3 || !slices.Equal(got, []int{2, 0}) {
			t.Errorf("down: size %d, loose %v", d.Size(), got)
		}
		d.Fuel(n)
	}
	isDown(t, d)
	d.Fall([]bool{true, false})
	holds(t, d, "firm", "", "two")
	goesOn(t, d)
}

// P4.1, Loose: each write's sector, in the order of the writes, till a flush or a fall.
func TestLooseTellsWritesInOrder(t *testing.T) {
	d := made(t, 10)
	loose := func(want ...int) {
		t.Helper()
		if got := d.Loose(); !slices.Equal(got, want) {
			t.Errorf("loose %v, not %v", got, want)
		}
	}
	acts := []int{7, 0, 7, 7, 9, 0, 3, 7}
	loose()
	for k, i := range acts {
		says(t, d.Write(i, "x"), api.OK)
		loose(acts[:k+1]...)
	}
	says(t, d.Write(10, "x"), api.ErrRange)
	says(t, d.Write(1, strings.Repeat("x", 513)), api.ErrBig)
	loose(acts...)
	says(t, d.Flush(), api.OK)
	loose()
	says(t, d.Write(4, "x"), api.OK)
	says(t, d.Write(4, "x"), api.OK)
	loose(4, 4)
	d.Fall([]bool{true})
	loose()
	says(t, d.Write(5, "x"), api.OK)
	loose(5)
	d.Fuel(0)
	says(t, d.Write(6, "x"), api.ErrDown)
	loose(5)
	d.Fall(nil)
	loose()
}

// P4.1, Fall: each keep of three writes, shorter and longer ones among them.
func TestFallKeepsWhatItIsTold(t *testing.T) {
	for _, one := range []struct {
		keep []bool
		want [2]string
	}{
		{nil, [2]string{"a", ""}},
		{[]bool{}, [2]string{"a", ""}},
		{[]bool{false}, [2]string{"a", ""}},
		{[]bool{true}, [2]string{"b", ""}},
		{[]bool{true, true}, [2]string{"b", "x"}},
		{[]bool{false, true}, [2]string{"a", "x"}},
		{[]bool{false, false, false}, [2]string{"a", ""}},
		{[]bool{true, false, false}, [2]string{"b", ""}},
		{[]bool{false, false, true}, [2]string{"c", ""}},
		{[]bool{true, false, true}, [2]string{"c", ""}},
		{[]bool{true, true, false}, [2]string{"b", "x"}},
		{[]bool{false, true, true}, [2]string{"c", "x"}},
		{[]bool{true, true, true}, [2]string{"c", "x"}},
		{[]bool{false, false, false, true, true}, [2]string{"a", ""}},
		{[]bool{true, true, true, true, true, true}, [2]string{"c", "x"}},
	} {
		for _, down := range []bool{false, true} {
			d := made(t, 2)
			says(t, d.Write(0, "a"), api.OK)
			says(t, d.Flush(), api.OK)
			says(t, d.Write(0, "b"), api.OK)
			says(t, d.Write(1, "x"), api.OK)
			says(t, d.Write(0, "c"), api.OK)
			if down {
				d.Fuel(0)
				says(t, d.Flush(), api.ErrDown)
			}
			d.Fall(one.keep)
			holds(t, d, one.want[:]...)
			d.Fall([]bool{true, true, true})
			holds(t, d, one.want[:]...)
			says(t, d.Flush(), api.OK)
			holds(t, d, one.want[:]...)
		}
	}
}

// P4.1, Fall: what is kept is firm: a later fall doesn't lose it, nor does a later write that is lost.
func TestWhatFallKeepsIsFirm(t *testing.T) {
	d := made(t, 2)
	says(t, d.Write(0, "one"), api.OK)
	says(t, d.Write(1, "two"), api.OK)
	d.Fall([]bool{false, true})
	says(t, d.Write(1, "three"), api.OK)
	says(t, d.Write(0, "four"), api.OK)
	holds(t, d, "four", "three")
	d.Fall(nil)
	holds(t, d, "", "two")
}

// P4.1, Fall: a disk that was up, or down, with any limit, is up and without one.
func TestFallTakesLimitAway(t *testing.T) {
	for _, n := range []int{-1, 0, 1, 2, 5} {
		for _, down := range []bool{false, true} {
			d := made(t, 2)
			d.Fuel(n)
			for down && n >= 0 && !d.Down() {
				d.Write(1, "a")
			}
			d.Fall(nil)
			holds(t, d, "", "")
			goesOn(t, d)
		}
	}
}

// The document's example.
func TestExample(t *testing.T) {
	d := made(t, 1)
	says(t, d.Write(0, "a"), api.OK)
	says(t, d.Flush(), api.OK)
	says(t, d.Write(0, "b"), api.OK)
	says(t, d.Write(0, "c"), api.OK)
	d.Fall([]bool{false, true})
	holds(t, d, "c")
}

// R2: what is answered of a nil disk, at any arguments.
func TestNilDisk(t *testing.T) {
	var none *Disk
	for range 2 {
		if none.Size() != 0 || !none.Down() || len(none.Loose()) != 0 {
			t.Errorf("size %d, down %v, loose %v", none.Size(), none.Down(), none.Loose())
		}
		isDown(t, none)
		for _, n := range places(1) {
			none.Fuel(n)
		}
		for _, keep := range [][]bool{nil, {}, {true}, {false, true}} {
			none.Fall(keep)
		}
	}
}

// P0: a disk that New didn't make has no sectors, and panics at nothing.
func TestDiskWithoutSectors(t *testing.T) {
	d := &Disk{}
	for range 3 {
		for _, i := range places(1) {
			if got, e := d.Read(i); got != "" || e == api.OK {
				t.Errorf("Read(%d): %q, %d", i, got, e)
			}
			if d.Write(i, "a") == api.OK {
				t.Errorf("Write(%d) is done", i)
			}
		}
		if d.Size() != 0 || len(d.Loose()) != 0 {
			t.Errorf("size %d, loose %v", d.Size(), d.Loose())
		}
		d.Flush()
		d.Fall([]bool{true})
	}
}

// R4: what is handed in isn't kept, nor changed; what is answered is the caller's own.
func TestNothingIsShared(t *testing.T) {
	for _, n := range []int{5, 511, 512} {
		d := made(t, 2)
		bytes := slices.Repeat([]byte{'a'}, n)
		says(t, d.Write(0, unsafe.String(&bytes[0], n)), api.OK)
		before, _ := d.Read(0)
		told := d.Loose()
		clear(bytes)
		holds(t, d, strings.Repeat("a", n), "")
		told[0] = 1
		if got := d.Loose(); !slices.Equal(got, []int{0}) {
			t.Errorf("an answer of Loose is shared: %v", got)
		}
		_ = append(told[:0], 1, 1)
		says(t, d.Write(0, "b"), api.OK)
		if got := d.Loose(); !slices.Equal(got, []int{0, 0}) {
			t.Errorf("an answer of Loose is shared: %v", got)
		}
		keep := []bool{true, false}
		d.Fall(keep)
		if !slices.Equal(keep, []bool{true, false}) {
			t.Errorf("keep is changed: %v", keep)
		}
		keep[0], keep[1] = false, true
		holds(t, d, strings.Repeat("a", n), "")
		d.Fall(nil)
		holds(t, d, strings.Repeat("a", n), "")
		if before != padded(strings.Repeat("a", n)) {
			t.Errorf("what was read has changed: %.20q", before)
		}
	}
}

// R4: what was read, or told to be loose, stays as it is, whatever the disk does later.
func TestAnswersStay(t *testing.T) {
	d := made(t, 2)
	says(t, d.Write(0, "a"), api.OK)
	first, _ := d.Read(0)
	loose := d.Loose()
	says(t, d.Write(0, "b"), api.OK)
	says(t, d.Write(1, "c"), api.OK)
	says(t, d.Flush(), api.OK)
	says(t, d.Write(1, "d"), api.OK)
	d.Fall(nil)
	says(t, d.Write(1, "e"), api.OK)
	if first != padded("a") || !slices.Equal(loose, []int{0}) {
		t.Errorf("%.20q, %v", first, loose)
	}
	again, _ := d.Read(0)
	third, _ := d.Read(0)
	if unsafe.StringData(again) == unsafe.StringData(third) {
		t.Error("two answers share their bytes")
	}
}

// Two disks know nothing of each other.
func TestDisksAreApart(t *testing.T) {
	a, b := made(t, 2), made(t, 2)
	says(t, a.Write(0, "a"), api.OK)
	holds(t, b, "", "")
	says(t, b.Write(1, "b"), api.OK)
	holds(t, a, "a", "")
	says(t, a.Flush(), api.OK)
	if got := b.Loose(); !slices.Equal(got, []int{1}) {
		t.Errorf("loose %v", got)
	}
	b.Fuel(0)
	says(t, b.Flush(), api.ErrDown)
	says(t, a.Write(1, "aa"), api.OK)
	b.Fall(nil)
	holds(t, b, "", "")
	holds(t, a, "a", "aa")
	if got := a.Loose(); !slices.Equal(got, []int{1}) {
		t.Errorf("loose %v", got)
	}
}

// someKeep: a keep that is nil, shorter than n writes, just as long, or longer, with gaps.
func someKeep(source *rand.Rand, n int) []bool {
	if source.Intn(6) == 0 {
		return nil
	}
	long := n
	if source.Intn(2) == 0 {
		long = source.Intn(n + 4)
	}
	often := source.Intn(5) // of four
	keep := make([]bool, long)
	for k := range keep {
		keep[k] = source.Intn(4) < often
	}
	return keep
}

// someText: a text of up to 520 bytes, mostly one that is like no other.
func someText(source *rand.Rand, k int) string {
	switch source.Intn(8) {
	case 0:
		return ""
	case 1:
		return strings.Repeat(fmt.Sprint(k%10), 508+source.Intn(8))
	}
	return fmt.Sprint("act ", k, strings.Repeat("\xff", source.Intn(300)))
}

// act: the kth act, drawn, done by a disk and by the model: "" if they answer alike, else what differs.
func act(source *rand.Rand, k int, d *Disk, m *slowDisk) string {
	i := source.Intn(len(m.firm)+2) - 1
	switch source.Intn(16) {
	case 0, 1, 2, 3, 4, 5, 6:
		s := someText(source, k)
		if got, want := d.Write(i, s), m.write(i, s); got != want {
			return fmt.Sprintf("Write(%d) of %d bytes: %d, not %d", i, len(s), got, want)
		}
	case 7, 8, 9, 10:
		got, e := d.Read(i)
		want, f := m.read(i)
		if got != want || e != f {
			return fmt.Sprintf("Read(%d): %.20q, %d, not %.20q, %d", i, got, e, want, f)
		}
	case 11, 12:
		if got, want := d.Flush(), m.flush(); got != want {
			return fmt.Sprintf("Flush: %d, not %d", got, want)
		}
	case 13:
		n := source.Intn(14) - 2
		d.Fuel(n)
		m.fuel(n)
	default:
		if source.Intn(2) == 0 || m.down {
			keep := someKeep(source, len(m.writes))
			d.Fall(keep)
			m.fall(keep)
		}
	}
	return unlike(d, m)
}

// unlike: what differs in what a disk and the model tell; "" if nothing does.
func unlike(d *Disk, m *slowDisk) string {
	if d.Size() != len(m.firm) || d.Down() != m.down || !slices.Equal(d.Loose(), m.loose()) {
		return fmt.Sprintf("size %d, down %v, loose %v, not %d, %v, %v", d.Size(), d.Down(), d.Loose(), len(m.firm), m.down, m.loose())
	}
	for i := -1; i <= len(m.firm); i++ {
		got, e := d.Read(i)
		want, f := m.read(i)
		if got != want || e != f {
			return fmt.Sprintf("sector %d: %.20q, %d, not %.20q, %d", i, got, e, want, f)
		}
	}
	return ""
}

// P4.1: acts in any order, held against the document's own words.
func TestActsInAnyOrder(t *testing.T) {
	for seed := range 300 {
		source := rand.New(rand.NewSource(int64(seed)))
		n := 1 + source.Intn(6)
		d, m := made(t, n), newSlow(n)
		for k := range 300 {
			if wrong := act(source, k, d, m); wrong != "" {
				t.Fatalf("%d sectors, source %d, act %d: %s", n, seed, k, wrong)
			}
		}
	}
}

// maybe: what a sector may hold behind a fall: its firm content, and, if it was written since, what was written.
type maybe struct {
	firm  string
	since []string
}

// P4.2: over drawn acts and drawn keeps each sector has its firm content behind a fall, or one that was written to it since; what was flushed, and not written since, is there.
func TestFallLeavesFirmOrWritten(t *testing.T) {
	for seed := range 200 {
		source := rand.New(rand.NewSource(int64(seed)))
		n := 1 + source.Intn(8)
		d := made(t, n)
		may := make([]maybe, n)
		for i := range may {
			may[i].firm = padded("")
		}
		for k := range 400 {
			i := source.Intn(n)
			switch source.Intn(10) {
			case 0:
				d.Fuel(source.Intn(20) - 4)
			case 1:
				if d.Flush() == api.OK {
					flushed(may)
				}
			case 2:
				d.Fall(someKeep(source, len(d.Loose())))
				if wrong := fallen(d, may); wrong != "" {
					t.Fatalf("source %d, act %d: %s", seed, k, wrong)
				}
			default:
				text := fmt.Sprint("act ", k)
				if d.Write(i, text) == api.OK {
					may[i].since = append(may[i].since, padded(text))
				}
			}
		}
	}
}

// flushed: each sector's firm content is what was written to it last.
func flushed(may []maybe) {
	for i, one := range may {
		if len(one.since) > 0 {
			may[i] = maybe{firm: one.since[len(one.since)-1]}
		}
	}
}

// fallen: what a fall left that it mustn't leave; "" if there is nothing. What it left is firm.
func fallen(d *Disk, may []maybe) string {
	for i, one := range may {
		got, e := d.Read(i)
		if e != api.OK || got != one.firm && !slices.Contains(one.since, got) {
			return fmt.Sprintf("sector %d: %.20q, %d; firm was %.20q, written since %d texts", i, got, e, one.firm, len(one.since))
		}
		may[i] = maybe{firm: got}
	}
	return ""
}

// P4.2: each keep there is, of five writes to three sectors, and at each step at which the disk may go down.
func TestEachFallOfFewWrites(t *testing.T) {
	writes := []int{0, 1, 0, 2, 0}
	for fuel := range len(writes) + 2 {
		for mask := range 1 << len(writes) {
			d := made(t, 4)
			for i := range 4 {
				says(t, d.Write(i, "firm"), api.OK)
			}
			says(t, d.Flush(), api.OK)
			want := []string{"firm", "firm", "firm", "firm"}
			d.Fuel(fuel)
			var keep []bool
			for k, i := range writes {
				text := fmt.Sprint("write ", k)
				kept := mask>>k&1 == 1
				keep = append(keep, kept)
				if e := d.Write(i, text); (e == api.OK) != (k < fuel) {
					t.Fatalf("fuel %d, write %d: %d", fuel, k, e)
				}
				if k < fuel && (kept || fuel > len(writes)) {
					want[i] = text
				}
			}
			if e := d.Flush(); (e == api.OK) != (fuel > len(writes)) {
				t.Fatalf("fuel %d, Flush: %d", fuel, e)
			}
			d.Fall(keep)
			holds(t, d, want...)
		}
	}
}

// P4.2: what was flushed stays behind many falls, with other sectors written and lost.
func TestFlushedStaysBehindFalls(t *testing.T) {
	source := rand.New(rand.NewSource(4))
	d := made(t, 20)
	want := make([]string, 20)
	for i := range 10 {
		want[i] = fmt.Sprint("kept ", i)
		says(t, d.Write(i, want[i]), api.OK)
	}
	says(t, d.Flush(), api.OK)
	for range 200 {
		d.Fuel(source.Intn(30))
		for !d.Down() {
			d.Write(10+source.Intn(10), "other")
			if source.Intn(10) == 0 {
				d.Flush()
			}
		}
		d.Fall(someKeep(source, len(d.Loose())))
		holds(t, d, want[:10]...)
	}
}

// R7: the same acts are answered the same again.
func TestSameActsSameAnswers(t *testing.T) {
	run := func() []string {
		source := rand.New(rand.NewSource(5))
		d := made(t, 4)
		var told []string
		for k := range 2000 {
			i := source.Intn(6) - 1
			switch source.Intn(6) {
			case 0:
				told = append(told, fmt.Sprint(d.Flush()))
			case 1:
				d.Fall(someKeep(source, 3))
			case 2:
				d.Fuel(source.Intn(30))
			case 3:
				s, e := d.Read(i)
				told = append(told, fmt.Sprint(s, e, d.Loose(), d.Down()))
			default:
				told = append(told, fmt.Sprint(d.Write(i, someText(source, k))))
			}
		}
		return told
	}
	if !slices.Equal(run(), run()) {
		t.Error("two runs differ")
	}
}

// P0: many sectors, many writes: each call ends.
func TestCallsEnd(t *testing.T) {
	done := make(chan bool)
	go func() {
		defer close(done)
		source := rand.New(rand.NewSource(6))
		d, _ := New(65536)
		for round := range 4 {
			for k := range 65536 {
				if e := d.Write(source.Intn(65536), fmt.Sprint(round, k)); e != api.OK {
					t.Errorf("Write: %d", e)
					return
				}
				if got, e := d.Read(k); e != api.OK || len(got) != 512 {
					t.Errorf("Read(%d): %d bytes, %d", k, len(got), e)
					return
				}
			}
			if n := len(d.Loose()); n != 65536 {
				t.Errorf("%d loose writes", n)
			}
			if round%2 == 0 {
				d.Flush()
			} else {
				d.Fall(someKeep(source, 65536))
			}
		}
	}()
	select {
	case <-done:
	case <-time.After(time.Minute):
		t.Fatal("a call doesn't end")
	}
}
