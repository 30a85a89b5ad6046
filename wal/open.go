package wal

import (
	"cooperage/api"
	"cooperage/sector"
)

// How many sectors a ring may have.
const (
	minRing = 4
	maxRing = 4096
)

// Open answers the log that stands on d, or a new one on a disk of noughts.
func Open(d *sector.Disk, ring int) (*Log, api.Errno) {
	if ring < minRing || ring > maxRing || d.Size() < ring+2 {
		return nil, api.ErrArg
	}
	if d.Down() {
		return nil, api.ErrDown
	}
	l := &Log{disk: d, ring: ring, homes: d.Size() - 1 - ring, waiting: map[int]content{}}
	if !l.begin() && !l.resume() {
		return nil, api.ErrLost
	}
	// What was found is firm from here on: what the log tells of it no fall takes back.
	l.flush()
	if l.down {
		return nil, api.ErrDown
	}
	return l, api.OK
}

// begin lays a new log, if the disk is of noughts, and answers whether it is.
func (l *Log) begin() bool {
	for i := range l.disk.Size() {
		if !blank(l.held(i)) {
			return false
		}
	}
	l.next = place{0, 1}
	// Ahead of all else, so that what stands on a disk can be told to be a log's, and with which ring.
	l.write(0, firstText(l.disk.Size(), l.ring, l.next))
	return true
}

// resume takes up the log that stands on the disk, and answers whether there is one.
func (l *Log) resume() bool {
	from, ok := readFirst(l.held(0), l.disk.Size(), l.ring)
	if !ok {
		return false
	}
	l.next = from
	for l.isNext(l.heldInRing(l.next.at)) {
		if !l.retake() {
			return false
		}
	}
	return l.isRing()
}

// isNext answers whether s is the head of the next group.
func (l *Log) isNext(s string) bool {
	number, _, ok := readHead(s, l.ring)
	return ok && number == l.next.number
}

// retake lets the next group count again, whose head stands in the ring, and answers whether it is wholly there.
func (l *Log) retake() bool {
	_, n, _ := readHead(l.heldInRing(l.next.at), l.ring)
	var list []string
	// One that reached round to the first group would find a head there, no puts.
	for k := range sizeOf(n) - 1 {
		list = append(list, l.heldInRing(l.next.at+1+k))
	}
	group, ok := readPuts(list, n, l.homes)
	if ok {
		l.take(group)
	}
	return ok
}

// isRing answers whether each sector of the ring is one that a log may have left there: heads of groups ahead of the next one, puts, noughts.
func (l *Log) isRing() bool {
	for i := range l.ring {
		s := l.heldInRing(i)
		number, _, isHead := readHead(s, l.ring)
		if !blank(s) && !isPuts(s) && !(isHead && number < l.next.number) {
			return false
		}
	}
	return true
}

// held answers what the disk's sector i holds.
func (l *Log) held(i int) string {
	s, _ := l.disk.Read(i)
	return s
}

// heldInRing answers what the ring's sector i holds, round and round.
func (l *Log) heldInRing(i int) string {
	return l.held(l.sectorOfRing(i))
}
