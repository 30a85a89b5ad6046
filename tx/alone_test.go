package tx_test

import (
	"fmt"
	"strings"
	"testing"

	"cooperage/api"
	"cooperage/sector"
	"cooperage/tx"
	"cooperage/wal"
)

// P6.2: at each call of a change ahead of its Commit nothing shows: not in the log, not in another change, not on the disk, which takes no step.
func TestNothingShowsAheadOfCommit(t *testing.T) {
	calls := map[string]func(change *tx.Tx){
		"Begin":          func(change *tx.Tx) {},
		"Homes":          func(change *tx.Tx) { change.Homes() },
		"Read":           func(change *tx.Tx) { change.Read(0); change.Read(9) },
		"Write":          func(change *tx.Tx) { change.Write(0, "a"); change.Write(1, "a"); change.Write(2, "a") },
		"Write refused":  func(change *tx.Tx) { change.Write(9, "a"); change.Write(1, strings.Repeat("a", 513)) },
		"Mark":           func(change *tx.Tx) { change.Write(0, "a"); change.Mark() },
		"Back":           func(change *tx.Tx) { change.Write(1, "a"); change.Write(0, "a"); change.Back(1); change.Back(0) },
		"Touched":        func(change *tx.Tx) { change.Write(3, "a"); change.Touched() },
		"Drop":           func(change *tx.Tx) { change.Write(1, "a"); change.Drop() },
		"Commit of none": func(change *tx.Tx) { change.Commit() },
	}
	for name, call := range calls {
		t.Run(name, func(t *testing.T) {
			b := laid(t, 8, 4, 3)
			b.put(api.Put{At: 0, Text: "log"}, api.Put{At: 1, Text: "log"})
			b.write(1, 1, "other")
			b.write(1, 2, "other")
			before := onDisk(b.disk)
			b.disk.Fuel(0)
			call(tx.Begin(b.log))
			if b.disk.Down() || onDisk(b.disk) != before {
				t.Error("the disk was touched")
			}
			b.disk.Fuel(-1)
			b.check()
			b.commit(1)
			b.commit(2)
		})
	}
}

// P6.2: nor does a Commit that is refused.
func TestNothingShowsOfRefusedCommit(t *testing.T) {
	b := laid(t, 4, 8, 2)
	for i := range 8 {
		b.write(0, i, "more than the ring has")
	}
	before := onDisk(b.disk)
	b.commit(0)
	if onDisk(b.disk) != before {
		t.Error("the disk was touched by a Commit that was refused")
	}
}

// onDisk: all that a disk holds, and which of it is loose.
func onDisk(d *sector.Disk) string {
	var all strings.Builder
	for i := range d.Size() {
		s, _ := d.Read(i)
		all.WriteString(s)
	}
	return all.String() + fmt.Sprint(d.Loose())
}

// R7: the same calls leave the same on the disk, whatever else went on.
func TestSameCallsSameDisk(t *testing.T) {
	disk := func(marks bool) string {
		b := laid(t, 12, 8, 2)
		for k := range 40 {
			b.write(0, k*5%8, fmt.Sprint("put ", k))
			if marks {
				mark := b.changes[0].got.Mark()
				b.write(0, k%8, "forgotten")
				b.write(0, (k+1)%8, "forgotten")
				b.back(0, mark)
				b.write(1, k%8, "dropped")
				b.drop(1)
			}
			if k%7 == 6 {
				b.commit(0)
			}
		}
		return onDisk(b.disk)
	}
	want := disk(false)
	for range 5 {
		if disk(false) != want || disk(true) != want {
			t.Fatal("another disk")
		}
	}
}

// P6.1, and P5.2 through it: a Commit that is broken off at any step is there wholly, behind Open, or not at all; the change has its puts still.
func TestBrokenCommit(t *testing.T) {
	for fuel, done := 0, false; !done; fuel++ {
		for mask := range 64 {
			b := laid(t, 8, 4, 2)
			b.put(api.Put{At: 0, Text: "older"}, api.Put{At: 1, Text: "older"})
			for _, i := range []int{0, 2, 0, 3} {
				b.write(0, i, fmt.Sprint("newer ", i))
			}
			b.write(1, 1, "never")
			b.disk.Fuel(fuel)
			e := b.changes[0].got.Commit()
			if done = e == api.OK; done {
				break
			}
			if e != api.ErrDown {
				t.Fatalf("fuel %d: %d", fuel, e)
			}
			b.want.down = true
			b.check()
			var keep []bool
			for k := range b.disk.Loose() {
				keep = append(keep, mask>>k&1 == 1)
			}
			b.disk.Fall(keep)
			l, e := wal.Open(b.disk, 8)
			says(t, e, api.OK)
			change := tx.Begin(l)
			texts := []string{"older", "older", "", ""}
			if s, _ := change.Read(0); s == padded("newer 0") {
				texts = []string{"newer 0", "older", "newer 2", "newer 3"}
			}
			for i, text := range texts {
				holds(t, change.Read, i, padded(text), api.OK)
				holds(t, l.Read, i, padded(text), api.OK)
			}
			says(t, b.changes[0].got.Commit(), api.ErrDown)
			tells(t, b.changes[0].got.Mark(), 4)
		}
	}
}
