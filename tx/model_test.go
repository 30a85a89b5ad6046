package tx_test

import (
	"math"
	"slices"
	"strings"
	"testing"

	"cooperage/api"
	"cooperage/sector"
	"cooperage/tx"
	"cooperage/wal"
)

// held: a log in the document's words: what its homes hold, its ring, and whether it is down.
type held struct {
	homes []string
	ring  int
	down  bool
}

// gathered: a change in the document's words: its log, and its puts.
type gathered struct {
	log  *held
	puts []api.Put
}

func nothing(homes, ring int) *held {
	return &held{homes: slices.Repeat([]string{padded("")}, homes), ring: ring}
}

// padded: s with bytes 0 behind it, to 512.
func padded(s string) string {
	return s + strings.Repeat("\x00", 512-len(s))
}

func (h *held) read(i int) (string, api.Errno) {
	if h.down {
		return "", api.ErrDown
	}
	if i < 0 || i >= len(h.homes) {
		return "", api.ErrRange
	}
	return h.homes[i], api.OK
}

// commit: of puts that are all in order.
func (h *held) commit(puts []api.Put) api.Errno {
	if h.down {
		return api.ErrDown
	}
	if sizeOf(unlikeHomes(puts)) > h.ring {
		return api.ErrBig
	}
	for _, put := range puts {
		h.homes[put.At] = padded(put.Text)
	}
	return api.OK
}

func (g *gathered) read(i int) (string, api.Errno) {
	for _, put := range slices.Backward(g.puts) {
		if put.At == i && !g.log.down {
			return padded(put.Text), api.OK
		}
	}
	return g.log.read(i)
}

func (g *gathered) write(i int, s string) api.Errno {
	if _, e := g.log.read(i); e != api.OK {
		return e
	}
	if len(s) > 512 {
		return api.ErrBig
	}
	g.puts = append(slices.Clone(g.puts), api.Put{At: i, Text: s})
	return api.OK
}

func (g *gathered) back(mark int) {
	if mark < 0 {
		g.puts = nil
	} else if mark < len(g.puts) {
		g.puts = g.puts[:mark]
	}
}

func (g *gathered) commit() api.Errno {
	e := g.log.commit(g.puts)
	if e == api.OK {
		g.puts = nil
	}
	return e
}

func unlikeHomes(puts []api.Put) int {
	var homes []int
	for _, put := range puts {
		homes = append(homes, put.At)
	}
	slices.Sort(homes)
	return len(slices.Compact(homes))
}

// sizeOf: of a group of n unlike homes: 1 and the least whole number that isn't below 516 n / 511.
func sizeOf(n int) int {
	least := 0
	for least*511 < 516*n {
		least++
	}
	return 1 + least
}

// most: how many unlike homes a change may have, by the ring.
func most(ring int) int {
	n := 0
	for sizeOf(n+1) <= ring {
		n++
	}
	return n
}

// pair: a change, and the same in the document's words.
type pair struct {
	got  *tx.Tx
	want *gathered
}

// bench: a log with changes of it, and the same in the document's words.
type bench struct {
	t       *testing.T
	disk    *sector.Disk
	log     *wal.Log
	want    *held
	changes []pair
}

// laid: a log of so many homes, on a disk of noughts, and changes of it.
func laid(t *testing.T, ring, homes, changes int) *bench {
	t.Helper()
	d, e := sector.New(1 + ring + homes)
	if e != api.OK {
		t.Fatalf("a disk: %d", e)
	}
	l, e := wal.Open(d, ring)
	if e != api.OK {
		t.Fatalf("a log: %d", e)
	}
	b := &bench{t: t, disk: d, log: l, want: nothing(homes, ring)}
	for range changes {
		b.changes = append(b.changes, pair{tx.Begin(l), &gathered{log: b.want}})
	}
	return b
}

func says(t *testing.T, got, want api.Errno) {
	t.Helper()
	if got != want {
		t.Errorf("%d, not %d", got, want)
	}
}

// tells: that a call told such a number.
func tells(t *testing.T, got, want int) {
	t.Helper()
	if got != want {
		t.Errorf("%d, not %d", got, want)
	}
}

// holds: that a read answered so, that of a change or of a log.
func holds(t *testing.T, read func(i int) (string, api.Errno), i int, want string, wantErr api.Errno) {
	t.Helper()
	if got, e := read(i); got != want || e != wantErr {
		t.Errorf("home %d: %d bytes %.20q, %d, not %.20q, %d", i, len(got), got, e, want, wantErr)
	}
}

// places: numbers of homes, of n, and numbers that are of none.
func places(n int) []int {
	return []int{math.MinInt, -n, -1, 0, n / 2, n - 1, n, n + 1, 1 << 32, math.MaxInt}
}

// check: that the log and each change of it answer as in the document's words.
func (b *bench) check() {
	b.t.Helper()
	n := len(b.want.homes)
	tells(b.t, b.log.Homes(), n)
	if b.log.Down() != b.want.down {
		b.t.Errorf("the log is down: %v", b.log.Down())
	}
	for i := -1; i <= n; i++ {
		text, e := b.want.read(i)
		holds(b.t, b.log.Read, i, text, e)
	}
	for _, p := range b.changes {
		tells(b.t, p.got.Homes(), n)
		tells(b.t, p.got.Mark(), len(p.want.puts))
		tells(b.t, p.got.Touched(), unlikeHomes(p.want.puts))
		for i := -1; i <= n; i++ {
			text, e := p.want.read(i)
			holds(b.t, p.got.Read, i, text, e)
		}
	}
	if b.t.Failed() {
		b.t.FailNow()
	}
}

func (b *bench) write(k, i int, s string) {
	b.t.Helper()
	says(b.t, b.changes[k].got.Write(i, s), b.changes[k].want.write(i, s))
	b.check()
}

func (b *bench) back(k, mark int) {
	b.t.Helper()
	b.changes[k].got.Back(mark)
	b.changes[k].want.back(mark)
	b.check()
}

func (b *bench) commit(k int) {
	b.t.Helper()
	says(b.t, b.changes[k].got.Commit(), b.changes[k].want.commit())
	b.check()
}

func (b *bench) drop(k int) {
	b.t.Helper()
	b.changes[k].got.Drop()
	b.changes[k].want.back(0)
	b.check()
}

// put: the log's own Commit of one put, or of none, beside its changes.
func (b *bench) put(puts ...api.Put) {
	b.t.Helper()
	says(b.t, b.log.Commit(puts), b.want.commit(puts))
	b.check()
}

// bringDown: brings the log down, in a Commit of its own.
func (b *bench) bringDown() {
	b.t.Helper()
	b.disk.Fuel(0)
	says(b.t, b.log.Commit([]api.Put{{At: 0, Text: "down"}}), api.ErrDown)
	b.want.down = true
	b.check()
}
