package wal_test

import (
	"fmt"
	"math/rand"
	"slices"
	"strings"
	"testing"

	"cooperage/api"
	"cooperage/sector"
	"cooperage/wal"
)

// drawnKeep: of n loose writes: none, all, all but one, one alone, or some.
func drawnKeep(source *rand.Rand, n int) []bool {
	if n == 0 {
		return nil
	}
	keep := make([]bool, n)
	how, one := source.Intn(6), source.Intn(n)
	for k := range keep {
		switch how {
		case 0:
		case 1:
			keep[k] = true
		case 2:
			keep[k] = k == one
		case 3:
			keep[k] = k != one
		case 4:
			keep[k] = k >= one
		default:
			keep[k] = source.Intn(2) == 0
		}
	}
	return keep
}

// keeps: each keep of n loose writes, or, where these are too many, drawn ones, none and all among them.
func keeps(n int) [][]bool {
	list := [][]bool{nil, slices.Repeat([]bool{true}, n)}
	if n > 6 {
		source := rand.New(rand.NewSource(int64(n)))
		for range 60 {
			list = append(list, drawnKeep(source, n))
		}
		return list
	}
	for mask := range 1 << n {
		var keep []bool
		for k := range n {
			keep = append(keep, mask>>k&1 == 1)
		}
		list = append(list, keep)
	}
	return list
}

// scene: a disk with a log, and what its homes hold.
type scene struct {
	disk *sector.Disk
	log  *wal.Log
	held homes
}

// laid: a log of 11 homes with so many groups behind one another, and behind the last one a Checkpoint or none.
func laid(t *testing.T, ring, groups int, checkpoint bool) scene {
	t.Helper()
	d, l := fresh(t, ring, 11)
	s := scene{d, l, noughts(11)}
	for k := range groups {
		put := rise(k%6, 1+k%2, fmt.Sprint("group ", k))
		says(t, l.Commit(put), api.OK)
		s.held = s.held.with(put)
	}
	if checkpoint {
		says(t, l.Checkpoint(), api.OK)
	}
	return s
}

// found: what Open finds in the homes behind a fall, in Open too: one of those it may, and again and again the same.
func found(t *testing.T, d *sector.Disk, ring int, may ...homes) homes {
	t.Helper()
	l := opened(t, d, ring)
	for _, want := range may {
		if unlike(l, want) == "" {
			stays(t, d, l, ring, want)
			return want
		}
	}
	t.Fatalf("the homes hold neither what they held nor what they were to hold: %s", unlike(l, may[0]))
	return nil
}

// eachFall: breaks an act off at each of its steps, with each keep, till it is done; the homes hold then what they held, or what they hold behind the act; behind one that is done, that alone.
func eachFall(t *testing.T, ring int, lay func() scene, act func(s scene) api.Errno, after func(held homes) homes) {
	t.Helper()
	for fuel := 0; ; fuel++ {
		s := lay()
		s.disk.Fuel(fuel)
		e := act(s)
		loose := len(s.disk.Loose())
		for _, keep := range keeps(loose) {
			s := lay()
			s.disk.Fuel(fuel)
			if got := act(s); got != e || e != api.OK && e != api.ErrDown {
				t.Fatalf("fuel %d: %d, then %d", fuel, e, got)
			}
			s.disk.Fall(keep)
			if e == api.OK {
				found(t, s.disk, ring, after(s.held))
			} else {
				found(t, s.disk, ring, s.held, after(s.held))
			}
		}
		if e == api.OK {
			return
		}
	}
}

func unchanged(held homes) homes {
	return held
}

// P5.2: at each step of a Commit, each keep: with room in the ring, and where others must make room first.
func TestEachFallOfCommit(t *testing.T) {
	for _, ring := range []int{4, 5, 8, 11} {
		for groups := range 7 {
			for _, checkpoint := range []bool{false, true} {
				for _, n := range []int{1, 2} {
					put := rise(4, n, "new")
					eachFall(t, ring,
						func() scene { return laid(t, ring, groups, checkpoint) },
						func(s scene) api.Errno { return s.log.Commit(put) },
						func(held homes) homes { return held.with(put) })
				}
			}
		}
	}
}

// P5.2: a group that fills the ring, at each step.
func TestEachFallOfRingsGroup(t *testing.T) {
	for _, ring := range []int{4, 8, 12} {
		put := rise(0, most(ring), "new")
		for groups := range 3 {
			eachFall(t, ring,
				func() scene { return laid(t, ring, groups, false) },
				func(s scene) api.Errno { return s.log.Commit(put) },
				func(held homes) homes { return held.with(put) })
		}
	}
}

// P5.2: at each step of a Checkpoint, each keep.
func TestEachFallOfCheckpoint(t *testing.T) {
	for _, ring := range []int{4, 8, 20} {
		for groups := range 7 {
			eachFall(t, ring,
				func() scene { return laid(t, ring, groups, false) },
				func(s scene) api.Errno { return s.log.Checkpoint() },
				unchanged)
		}
	}
}

// P5.2: at each step of Open, each keep: of a disk of noughts, and of one that has a log; a broken Open answers no log.
func TestEachFallOfOpen(t *testing.T) {
	open := func(s scene) api.Errno {
		l, e := wal.Open(s.disk, 8)
		if (l == nil) != (e != api.OK) {
			t.Errorf("Open: %v, %d", l, e)
		}
		return e
	}
	for groups := range 7 {
		for _, checkpoint := range []bool{false, true} {
			eachFall(t, 8, func() scene { return laid(t, 8, groups, checkpoint) }, open, unchanged)
		}
	}
	eachFall(t, 8, func() scene { return scene{newDisk(t, 20), nil, noughts(11)} }, open, unchanged)
}

// P5.2: at each step of Open, each keep, behind a Commit that was broken off at each step.
func TestEachFallOfOpenBehindBrokenCommit(t *testing.T) {
	put := rise(4, 2, "new")
	for fuel := range 20 {
		for _, kept := range []bool{false, true} {
			keep := slices.Repeat([]bool{kept}, 100)
			lay := func() scene {
				s := laid(t, 8, 3, false)
				s.disk.Fuel(fuel)
				s.log.Commit(put)
				s.disk.Fall(keep)
				return s
			}
			s := lay()
			now := found(t, s.disk, 8, s.held, s.held.with(put))
			eachFall(t, 8, lay,
				func(s scene) api.Errno { _, e := wal.Open(s.disk, 8); return e },
				func(homes) homes { return now })
		}
	}
}

// P5.2: a group that was broken off and is gone stays gone, and one that is there stays there, whatever is committed behind it.
func TestBrokenGroupIsSettled(t *testing.T) {
	for fuel := range 12 {
		for _, keep := range keeps(4) {
			s := laid(t, 8, 2, false)
			s.disk.Fuel(fuel)
			s.log.Commit(rise(4, 3, "broken"))
			s.disk.Fall(keep)
			held := found(t, s.disk, 8, s.held, s.held.with(rise(4, 3, "broken")))
			l := opened(t, s.disk, 8)
			for k := range 10 {
				put := rise(k%4, 1+k%2, fmt.Sprint("behind ", k))
				says(t, l.Commit(put), api.OK)
				held = held.with(put)
				found(t, s.disk, 8, held)
			}
		}
	}
}

// P5.2: a fall between calls takes nothing back, nor do falls one behind the other.
func TestFallBetweenCalls(t *testing.T) {
	for _, ring := range []int{4, 8, 20} {
		d, l := fresh(t, ring, 11)
		want := noughts(11)
		for k := range 60 {
			put := rise(k%9, 1+k%2, fmt.Sprint("group ", k))
			says(t, l.Commit(put), api.OK)
			want = want.with(put)
			if k%4 == 3 {
				says(t, l.Checkpoint(), api.OK)
			}
			d.Fall(nil)
			d.Fall(nil)
			l = opened(t, d, ring)
			d.Fall(nil)
			l = opened(t, d, ring)
			holds(t, l, want)
		}
	}
}

// run: a log on which drawn acts are done, while its disk falls.
type run struct {
	source *rand.Rand
	disk   *sector.Disk
	log    *wal.Log
	ring   int
	may    []homes // what the homes hold: one of these
}

// open: opens the log, at times with falls in Open, and settles what its homes hold.
func (r *run) open() string {
	for {
		if r.source.Intn(2) == 0 {
			r.disk.Fuel(r.source.Intn(4))
		}
		l, e := wal.Open(r.disk, r.ring)
		if e == api.OK {
			r.log = l
			break
		}
		if l != nil || e != api.ErrDown {
			return fmt.Sprintf("Open: %v, %d", l, e)
		}
		r.disk.Fall(drawnKeep(r.source, len(r.disk.Loose())))
	}
	for _, want := range r.may {
		if unlike(r.log, want) == "" {
			r.may = []homes{want}
			r.disk.Fuel(r.source.Intn(80) - 1)
			return ""
		}
	}
	return unlike(r.log, r.may[0])
}

// act: one act more; what is wrong, if something is.
func (r *run) act(k int) string {
	e, held := api.OK, r.may[0]
	switch r.source.Intn(12) {
	case 0:
		e = r.log.Checkpoint()
	case 1:
		r.disk.Fall(drawnKeep(r.source, len(r.disk.Loose())))
		return r.open()
	case 2:
		if got := r.log.Commit(rise(0, len(held), "more")); got != api.ErrBig {
			return fmt.Sprintf("Commit of more than the ring has: %d", got)
		}
	default:
		put := drawnGroup(r.source, len(held), most(r.ring), k)
		if r.source.Intn(4) == 0 {
			put[0].Text = r.looksLikeLog()
		}
		e = r.log.Commit(put)
		if then := held.with(put); e == api.OK {
			r.may = []homes{then}
		} else {
			r.may = []homes{held, then}
		}
	}
	if e == api.OK {
		return unlike(r.log, r.may[0])
	}
	if e != api.ErrDown || !r.log.Down() {
		return fmt.Sprintf("%d, down: %v", e, r.log.Down())
	}
	r.disk.Fall(drawnKeep(r.source, len(r.disk.Loose())))
	return r.open()
}

// looksLikeLog: a text that stands on the disk, maybe a little farther on.
func (r *run) looksLikeLog() string {
	s, _ := r.disk.Read(r.source.Intn(r.ring + 1))
	more := r.source.Intn(12)
	return strings.Repeat(s[:1], more) + s[:len(s)-more]
}

// P5.2: drawn acts, steps and keeps: behind each Open what the last group left that was answered with OK, or, wholly, what the broken one would have.
func TestDrawnFalls(t *testing.T) {
	for _, ring := range []int{4, 5, 6, 8, 9, 13, 20} {
		for seed := range 60 {
			source := rand.New(rand.NewSource(int64(seed)))
			n := most(ring) + 1 + source.Intn(4)
			d, l := fresh(t, ring, n)
			r := &run{source, d, l, ring, []homes{noughts(n)}}
			for k := range 150 {
				if wrong := r.act(k); wrong != "" {
					t.Fatalf("ring %d, source %d, act %d: %s", ring, seed, k, wrong)
				}
			}
		}
	}
}

// The document's example.
func TestExample(t *testing.T) {
	older, newer := []api.Put{{At: 0, Text: "old"}, {At: 1, Text: "old"}}, []api.Put{{At: 0, Text: "new"}, {At: 1, Text: "new"}}
	eachFall(t, 8,
		func() scene {
			d, l := fresh(t, 8, 2)
			says(t, l.Commit(older), api.OK)
			return scene{d, l, noughts(2).with(older)}
		},
		func(s scene) api.Errno { return s.log.Commit(newer) },
		func(held homes) homes { return held.with(newer) })
}
