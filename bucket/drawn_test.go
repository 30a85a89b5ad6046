package bucket_test

import (
	"fmt"
	"maps"
	"math"
	"math/rand"
	"slices"
	"strings"
	"testing"
	"time"

	"cooperage/api"
	"cooperage/bucket"
	"cooperage/name"
	"cooperage/room"
	"cooperage/sector"
	"cooperage/tree"
	"cooperage/tx"
	"cooperage/wal"
)

// one: of a list, drawn.
func one[V any](source *rand.Rand, list []V) V {
	return list[source.Intn(len(list))]
}

// drawnName: mostly one that buckets may have, of few; now and then none.
func drawnName(source *rand.Rand) string {
	if source.Intn(12) == 0 {
		return one(source, noNames())
	}
	return one(source, someNames())
}

// drawnRule: mostly right; now and then not.
func drawnRule(source *rand.Rand) api.Rule {
	prefix := make([]byte, source.Intn(24))
	source.Read(prefix)
	switch source.Intn(4) {
	case 0:
		return api.Rule{}
	case 1:
		return one(source, rules())
	}
	return api.Rule{On: source.Intn(9) > 0, Prefix: string(prefix), After: one(source, numbers())}
}

// drawnState: mostly right; now and then not.
func drawnState(source *rand.Rand) int {
	if source.Intn(4) == 0 {
		return one(source, states())
	}
	return source.Intn(3)
}

// drawnThing: under one of few buckets.
func drawnThing(source *rand.Rand) thing {
	return thing{source.Intn(2) == 0, one(source, someNames()), one(source, []string{"k", "kk", "\xff"}), uint64(source.Intn(3))}
}

// act: a drawn call.
func (b *bench) act(source *rand.Rand) {
	b.t.Helper()
	s := drawnName(source)
	switch source.Intn(24) {
	case 0, 1, 2, 3, 4:
		b.make(s, one(source, numbers()))
	case 5, 6:
		b.look(s)
	case 7, 8:
		b.setState(s, drawnState(source))
	case 9, 10:
		b.setRule(s, drawnRule(source))
	case 11, 12, 13:
		b.drop(s)
	case 14, 15, 16:
		b.restore(api.Bucket{Name: s, State: drawnState(source), Born: one(source, numbers()), Rule: drawnRule(source)})
	default:
		if !b.down {
			b.actBeside(source)
		}
	}
}

// actBeside: something drawn that is done beside the calls, of a log that is up.
func (b *bench) actBeside(source *rand.Rand) {
	b.t.Helper()
	switch source.Intn(14) {
	case 0, 1, 2:
		b.lay(drawnThing(source))
	case 3, 4, 5, 6, 7:
		for _, x := range b.want.laid() {
			if source.Intn(2) == 0 {
				b.take(x)
			}
		}
	case 8:
		b.leave(source.Intn(b.room().Pages() + 1))
	case 9:
		b.leave(roomy)
	case 10:
		b.mark()
	case 11:
		b.back(one(source, append(b.marks, marked{math.MaxInt, nil})).mark)
	case 12:
		b.commit()
	case 13:
		b.forget()
	}
}

// P14.1: drawn calls, of two rooms by turns, of few pages and of many, to the log's going down, behind it, and when it is opened again; all buckets behind each of them.
func TestDrawnActs(t *testing.T) {
	for _, pages := range []int{0, 1, 2, 3, 5, 9, 40} {
		for seed := range 3 {
			source := rand.New(rand.NewSource(int64(seed)))
			b := laid(t, pages)
			for range 2 {
				for range 120 {
					b.act(source)
				}
				b.bringDown()
				for range 20 {
					b.act(source)
				}
				b.reopen()
			}
		}
	}
}

// manyNames: n names of buckets, of several lengths.
func manyNames(n int) []string {
	var list []string
	for k := range n {
		list = append(list, fmt.Sprintf("%05d", k*7919%100000)+strings.Repeat("x", k%12))
	}
	return list
}

// P14.1: drawn calls of many buckets in a map of several levels.
func TestDrawnManyBuckets(t *testing.T) {
	source := rand.New(rand.NewSource(3))
	b, names := laid(t, 300), manyNames(400)
	b.lazy = true
	for range 4000 {
		s := one(source, names)
		switch source.Intn(8) {
		case 0, 1, 2:
			b.make(s, uint64(source.Intn(99)))
		case 3:
			b.setState(s, drawnState(source))
		case 4:
			b.setRule(s, drawnRule(source))
		case 5:
			b.drop(s)
		case 6:
			b.restore(api.Bucket{Name: s, State: drawnState(source), Rule: drawnRule(source)})
		case 7:
			b.look(s)
		}
	}
	if len(b.want.buckets) < 100 {
		t.Fatalf("%d buckets", len(b.want.buckets))
	}
	b.commit()
	b.reopen()
	for _, s := range names {
		checkName(t, b.room(), b.want, s)
	}
	b.lazy = false
	b.check()
}

// P14.1, ErrFull: a Make, and a Restore of a bucket that isn't there, in a room with just as many free pages as it needs, is done; with one less, and with none, if it needs any, it is refused, and nothing has changed.
func TestLittleRoom(t *testing.T) {
	calls := map[string]func(b *bench, s string) api.Errno{
		"Make":    func(b *bench, s string) api.Errno { return b.make(s, 5) },
		"Restore": func(b *bench, s string) api.Errno { return b.restore(api.Bucket{Name: s, State: 2, Rule: fullRule()}) },
	}
	for which, call := range calls {
		b, needed := laid(t, 200), map[int]int{}
		for n, s := range manyNames(250) {
			b.lazy = n%25 > 0
			b.leave(20)
			mark, free := b.mark(), b.free()
			says(t, call(b, s), api.OK)
			needs := free - b.free()
			b.back(mark)
			needed[needs]++
			if needs > 0 {
				b.leave(needs - 1)
				says(t, call(b, s), api.ErrFull)
				b.leave(0)
				says(t, call(b, s), api.ErrFull)
			}
			b.leave(needs)
			says(t, call(b, s), api.OK)
			tells(t, b.free(), api.OK, 0, api.OK)
		}
		if needed[0] < 100 || needed[1] < 10 || needed[2] < 1 {
			t.Fatalf("%s: how many pages were needed: %v", which, needed)
		}
	}
}

// P14.1: in a room without a free page SetState, SetRule, Restore of a bucket that is there, and Drop are done, however many buckets there are; somebody else takes each page that is given back.
func TestFullRoom(t *testing.T) {
	b, names := laid(t, 120), manyNames(250)
	b.lazy = true
	for k, s := range names {
		says(t, b.make(s, uint64(k)), api.OK)
	}
	b.commit()
	b.leave(0)
	list := []api.Rule{fullRule(), {On: true}, {}, {On: true, Prefix: "p"}, fullRule(), {On: true, Prefix: strings.Repeat("q", 20), After: 1}}
	for k, rule := range list {
		for _, s := range names {
			says(t, b.setRule(s, rule), api.OK)
			says(t, b.setState(s, 1+k%2), api.OK)
			if k > 3 {
				says(t, b.restore(api.Bucket{Name: s, State: k % 3, Born: math.MaxUint64, Rule: list[k-2]}), api.OK)
			}
		}
	}
	b.lay(thing{false, names[7], "k", 1})
	for k, s := range names {
		want := api.OK
		if _, laid := b.want.things[thing{false, s, "k", 1}]; laid {
			want = api.NotEmpty
		}
		says(t, b.drop(s), want)
		b.leave(0)
		if k%40 == 0 {
			b.lazy = false
			b.check()
			b.lazy = true
		}
	}
}

// P14.1: in rooms of no page, of one, and of few: how many buckets there is room for.
func TestSmallRooms(t *testing.T) {
	for pages := range 6 {
		b, done := laid(t, pages), 0
		for k, s := range manyNames(60) {
			want := b.make(s, uint64(k))
			if want == api.OK {
				done++
			}
			says(t, b.setState(s, 1), map[api.Errno]api.Errno{api.OK: api.OK, api.ErrFull: api.NoBucket}[want])
		}
		if pages == 0 && done > 0 || done < 4*pages {
			t.Fatalf("%d pages: %d buckets", pages, done)
		}
		for _, s := range manyNames(60) {
			b.drop(s)
		}
		used, e := b.room().Used()
		tells(t, used, e, 0, api.OK)
	}
}

// P14.1, and P5.2 through it: buckets are there, behind Open, as their last Commit left them, or as the one that was broken off would have, whatever the fall keeps.
func TestBrokenCommit(t *testing.T) {
	for _, keep := range []string{"nothing", "all", "some"} {
		for fuel, done := 0, false; !done; fuel++ {
			b := laid(t, 40)
			b.lazy = true
			for k, s := range someNames() {
				b.make(s, uint64(k))
			}
			b.commit()
			b.drop("abc")
			b.make("new", 9)
			b.setState("abd", 2)
			b.setRule("abcd", fullRule())
			b.restore(api.Bucket{Name: "zzz", State: 1})
			b.disk.Fuel(fuel)
			done = b.change().Commit() == api.OK
			b.disk.Fuel(-1)
			var list []bool
			for k := range b.disk.Loose() {
				list = append(list, keep == "all" || keep == "some" && k%2 == fuel%2)
			}
			b.disk.Fall(list)
			l, e := wal.Open(b.disk, ring)
			says(t, e, api.OK)
			names, e := bucket.Names(room.Of(tx.Begin(l)))
			says(t, e, api.OK)
			if slices.Contains(names, "new") {
				b.firm = b.want
			} else if done {
				t.Fatal("what was committed isn't there")
			}
			b.lazy = false
			b.reopen()
		}
	}
}

// broken: a room of 40 pages with buckets, and things under some of them.
func broken(t *testing.T) *bench {
	t.Helper()
	b := laid(t, 40)
	for k, s := range someNames() {
		b.restore(api.Bucket{Name: s, State: k % 3, Born: uint64(k), Rule: api.Rule{On: true, Prefix: s}})
		if k%2 == 0 {
			b.lay(thing{k%4 == 0, s, "k", 1})
			b.lay(thing{k%4 == 0, s, strings.Repeat("k", 40), 1})
		}
	}
	b.commit()
	return b
}

// agree: that all calls of the room end, whatever stands in it, that what is told is right for what the map tells, and that what is refused has changed nothing; all is taken back.
func (b *bench) agree() {
	b.t.Helper()
	r, was := b.room(), b.now()
	see := func(told bool, e api.Errno) {
		b.t.Helper()
		if told && e != api.OK || !slices.Contains([]api.Errno{api.OK, api.ErrLost, api.ErrFull, api.BucketThere, api.NoBucket, api.NotEmpty}, e) {
			b.t.Fatalf("refused by %d; something is told: %v", e, told)
		}
		if now := b.now(); e != api.OK && (now.mark != was.mark || !slices.Equal(now.homes, was.homes)) {
			b.t.Fatal("what was refused has changed something")
		}
		b.change().Back(was.mark)
	}
	names, e := bucket.Names(r)
	see(len(names) > 0, e)
	for _, s := range someNames() {
		_, there, lost := tree.At(r, 4).Get(name.BucketKey(s))
		found, e := bucket.Find(r, s)
		if lost != api.OK && e != lost || lost == api.OK && there == (e == api.NoBucket) || e == api.OK && found.Name != s {
			b.t.Fatalf("%s, %d, where the map tells %v, %d", shown(found), e, there, lost)
		}
		see(found != api.Bucket{}, e)
		empty, e := bucket.Empty(r, s)
		if there, lost := b.under(s); e == api.OK && empty == there || empty && lost != api.OK {
			b.t.Fatalf("%v, %d, where the map tells %v, %d", empty, e, there, lost)
		}
		see(empty, e)
		for _, call := range b.calls(s) {
			see(false, call())
		}
	}
}

// under: whether the map tells of something under a bucket, and what error it tells, if it does.
func (b *bench) under(s string) (bool, api.Errno) {
	there, lost := false, api.OK
	for _, kind := range []byte{'v', 'u'} {
		from := name.Under(kind, s)
		list, e := tree.At(b.room(), 4).Scan(from, name.Behind(from), 1)
		there = there || len(list) > 0
		if e != api.OK {
			lost = e
		}
	}
	return there, lost
}

// calls: those of a name that change something.
func (b *bench) calls(s string) []func() api.Errno {
	r := b.room()
	return []func() api.Errno{
		func() api.Errno { return bucket.Make(r, s, 1) },
		func() api.Errno { return bucket.SetState(r, s, 1) },
		func() api.Errno { return bucket.SetRule(r, s, fullRule()) },
		func() api.Errno { return bucket.Drop(r, s) },
		func() api.Errno { return bucket.Restore(r, api.Bucket{Name: s, State: 1}) },
	}
}

// P0, P14.1: rooms of which a page is free, or holds noughts or something else, or what another one does, or whose number of the map is another one: each call ends, and what is refused changes nothing.
func TestBrokenRooms(t *testing.T) {
	b := broken(t)
	r := b.room()
	for page := range 40 {
		mark := r.Mark()
		held, e := r.Read(page)
		if e != api.OK {
			continue
		}
		says(t, r.Free(page), api.OK)
		b.agree()
		r.Back(mark)
		for _, s := range []string{"", "n", strings.Repeat("l", 512), held[:40] + "x" + held[41:]} {
			says(t, r.Write(page, s), api.OK)
			b.agree()
			r.Back(mark)
		}
		for other := range 40 {
			if s, e := r.Read(other); e == api.OK {
				says(t, r.Write(page, s), api.OK)
				b.agree()
				r.Back(mark)
			}
		}
	}
	for _, n := range []uint64{0, 1, 2, 7, 41, 1 << 16, 1 << 32, math.MaxUint64} {
		mark := r.Mark()
		says(t, r.SetRoot(4, n), api.OK)
		b.agree()
		r.Back(mark)
	}
	b.check()
}

// lost: that each call of a name but Restore is ErrLost, and that Restore is done: there is just that bucket then. All is taken back.
func (b *bench) lost(s string) {
	b.t.Helper()
	r, was := b.room(), b.now()
	found, e := bucket.Find(r, s)
	tells(b.t, found, e, api.Bucket{}, api.ErrLost)
	empty, e := bucket.Empty(r, s)
	tells(b.t, empty, e, false, api.ErrLost)
	names, e := bucket.Names(r)
	lists(b.t, names, e, nil, api.ErrLost)
	calls := b.calls(s)
	for _, call := range calls[:len(calls)-1] {
		says(b.t, call(), api.ErrLost)
	}
	if now := b.now(); now.mark != was.mark || !slices.Equal(now.homes, was.homes) {
		b.t.Fatal("what was refused has changed something")
	}
	says(b.t, calls[len(calls)-1](), api.OK)
	found, e = bucket.Find(r, s)
	tells(b.t, found, e, api.Bucket{Name: s, State: 1}, api.OK)
	b.change().Back(was.mark)
}

// P0, P14.1: what stands at a bucket's key is another one: drawn, too short, too long, with another byte at each place. It is lost, or a bucket that is written just so; of no other one anything has changed.
func TestDrawnValues(t *testing.T) {
	b, source := broken(t), rand.New(rand.NewSource(4))
	r, m, lost, found := b.room(), tree.At(b.room(), 4), 0, 0
	try := func(s, val string) {
		t.Helper()
		mark := r.Mark()
		says(t, m.Put(name.BucketKey(s), val), api.OK)
		if x, e := bucket.Find(r, s); e == api.OK {
			found++
			now := r.Mark()
			says(t, bucket.Restore(r, x), api.OK)
			if r.Mark() != now {
				t.Fatalf("%q isn't how %s is written", val, shown(x))
			}
		} else {
			lost++
			b.lost(s)
		}
		for _, other := range someNames() {
			if other != s {
				checkName(t, r, b.want, other)
			}
		}
		r.Back(mark)
	}
	for _, s := range []string{"abc", long} {
		held, _, e := m.Get(name.BucketKey(s))
		says(t, e, api.OK)
		for at := range held {
			try(s, held[:at])
			for _, c := range []byte{0, 1, 2, 3, 19, 20, 21, 255} {
				try(s, held[:at]+string([]byte{c})+held[at+1:])
			}
		}
		try(s, held+"\x00")
		try(s, held+"x")
		for range 100 {
			val := make([]byte, source.Intn(57))
			source.Read(val)
			try(s, string(val))
		}
	}
	if lost < 300 || found < 100 {
		t.Fatalf("%d lost, %d found", lost, found)
	}
	b.check()
}

// P14.1, Names: where somebody else has put what is no bucket's key among them, it is lost; keys just ahead of all buckets', and just behind them, don't matter.
func TestForeignKeys(t *testing.T) {
	b := broken(t)
	m := tree.At(b.room(), 4)
	held, _, e := m.Get(name.BucketKey("abc"))
	says(t, e, api.OK)
	for _, key := range []string{"b", "b\x00", "bab\x00", "bnew", "bnew\x00x", "bnew\x00\x00", "bNEW\x00", "b-ew\x00", "b\xff"} {
		mark := b.mark()
		says(t, m.Put(key, held), api.OK)
		names, e := bucket.Names(b.room())
		lists(t, names, e, nil, api.ErrLost)
		checkName(t, b.room(), b.want, "abc")
		checkName(t, b.room(), b.want, "new")
		b.back(mark)
	}
	for _, key := range []string{"", "a", "aabc\x00", "a\xff\xff", "c", "c\x00", "Babc\x00", "v", "u", "p"} {
		mark := b.mark()
		says(t, m.Put(key, held), api.OK)
		names, e := bucket.Names(b.room())
		lists(t, names, e, slices.Sorted(maps.Keys(b.want.buckets)), api.OK)
		b.back(mark)
	}
}

// greatRoom: one of as many pages as a disk may have.
func greatRoom(t *testing.T) *room.Room {
	t.Helper()
	d, e := sector.New(api.MaxSectors)
	says(t, e, api.OK)
	l, e := wal.Open(d, 4)
	says(t, e, api.OK)
	return room.Of(tx.Begin(l))
}

// P0: in a room as great as a disk may be, with many buckets, and with much under one of them, all ends soon, whatever a name's or a prefix's length.
func TestEndsSoon(t *testing.T) {
	start, r := time.Now(), greatRoom(t)
	names := manyNames(20000)
	for k, s := range names {
		says(t, bucket.Make(r, s, uint64(k)), api.OK)
	}
	m := tree.At(r, 4)
	for id := range uint64(30000) {
		says(t, m.Put(name.VersionKey(names[5], "k", id), ""), api.OK)
	}
	for range 15000 {
		empty, e := bucket.Empty(r, names[5])
		tells(t, empty, e, false, api.OK)
		says(t, bucket.Drop(r, names[5]), api.NotEmpty)
	}
	slices.Sort(names)
	for range 10 {
		got, e := bucket.Names(r)
		lists(t, got, e, names, api.OK)
	}
	huge := strings.Repeat("a", 1<<28)
	says(t, bucket.Make(r, huge, 1), api.BadName)
	says(t, bucket.SetRule(r, names[5], api.Rule{On: true, Prefix: huge}), api.BadAsk)
	says(t, bucket.Restore(r, api.Bucket{Name: "abc", Rule: api.Rule{Prefix: huge}}), api.BadAsk)
	says(t, bucket.Restore(r, api.Bucket{Name: huge}), api.BadName)
	if took := time.Since(start); took > time.Minute {
		t.Errorf("%v", took)
	}
}
