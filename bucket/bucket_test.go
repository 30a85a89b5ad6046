package bucket_test

import (
	"math"
	"slices"
	"strings"
	"testing"
	"unsafe"

	"cooperage/api"
	"cooperage/bucket"
	"cooperage/name"
	"cooperage/room"
	"cooperage/tree"
	"cooperage/tx"
	"cooperage/wal"
)

// long: the longest name there is.
const long = "abcdefgh-2345678"

// someNames: of buckets: of which one begins another one, or is just less or just more than one, and the shortest and the longest ones.
func someNames() []string {
	return []string{"abc", "abcd", "abc-d", "abc0", "abb", "abd", "aba", "ab-c", "000", "0-0", "zzz", "z--z", long, long[:15], "a" + long[:15]}
}

// noNames: what are none: too short, too long, with a - or something else where it can't be.
func noNames() []string {
	return []string{"", "a", "ab", "-abc", "abc-", "---", "-", "Abc", "abC", "ABC", "a.c", "a_c", "a c", "abc ", " abc", "a/c", "a\x00c", "abc\x00", "\x00abc", "abc\xff", "äbc", "abc\n", "babc\x00", long + "9", strings.Repeat("a", 17), strings.Repeat("a", 1000), strings.Repeat("a", 1<<17)}
}

// states: for SetState and Restore.
func states() []int {
	return []int{math.MinInt, math.MinInt + 1, math.MinInt32, -256, -255, -1, 0, 1, 2, 3, 4, 255, 256, 257, 258, 1 << 32, 1<<32 + 1, 1<<32 + 2, math.MaxInt - 1, math.MaxInt}
}

// numbers: for Born and After.
func numbers() []uint64 {
	return []uint64{0, 1, 255, 256, 1 << 32, 1 << 63, math.MaxUint64 - 1, math.MaxUint64}
}

// prefixes: of 0 bytes to more than a rule may have, with bytes 0 and 255 in them.
func prefixes() []string {
	list := []string{"", "p", "p/", "\x00", "\xff", "a\x00", "\x00a", "a\x00b", "\xff\x00\xff", "photos/"}
	for _, n := range []int{19, 20, 21, 22, 40, 255, 256, 256 + 20, 1 << 16, 1<<16 + 5} {
		list = append(list, strings.Repeat("p", n), strings.Repeat("\x00", n), strings.Repeat("\xff", n), "\x00"+strings.Repeat("q", n-2)+"\x00")
	}
	return list
}

// rules: On with each prefix and each After, and not On with a Prefix, with an After, with both, with neither.
func rules() []api.Rule {
	var list []api.Rule
	for _, prefix := range prefixes() {
		for _, after := range numbers() {
			list = append(list, api.Rule{On: true, Prefix: prefix, After: after}, api.Rule{Prefix: prefix, After: after})
		}
	}
	return list
}

// fullRule: one of the greatest Prefix and After.
func fullRule() api.Rule {
	return api.Rule{On: true, Prefix: strings.Repeat("\xff", 20), After: math.MaxUint64}
}

// P14.1: the example: Make abc, Make abc: OK, BucketThere; and, step by step, what each call tells, in numbers.
func TestStepByStep(t *testing.T) {
	b := laid(t, 40)
	r := b.room()
	says(t, bucket.Make(r, "abc", 7), api.OK)
	says(t, bucket.Make(r, "abc", 8), api.BucketThere)
	found, e := bucket.Find(r, "abc")
	tells(t, found, e, api.Bucket{Name: "abc", State: 0, Born: 7}, api.OK)
	found, e = bucket.Find(r, "abd")
	tells(t, found, e, api.Bucket{}, api.NoBucket)
	says(t, bucket.SetState(r, "abc", 1), api.OK)
	says(t, bucket.SetState(r, "abc", 0), api.BadAsk)
	says(t, bucket.SetRule(r, "abc", api.Rule{On: true, Prefix: "p", After: 3}), api.OK)
	says(t, bucket.SetRule(r, "abc", api.Rule{Prefix: "p"}), api.BadAsk)
	found, e = bucket.Find(r, "abc")
	tells(t, found, e, api.Bucket{Name: "abc", State: 1, Born: 7, Rule: api.Rule{On: true, Prefix: "p", After: 3}}, api.OK)
	says(t, bucket.SetState(r, "abc", 2), api.OK)
	says(t, bucket.SetRule(r, "abc", api.Rule{}), api.OK)
	found, e = bucket.Find(r, "abc")
	tells(t, found, e, api.Bucket{Name: "abc", State: 2, Born: 7}, api.OK)
	says(t, bucket.Restore(r, api.Bucket{Name: "00a", State: 1, Born: 1}), api.OK)
	names, e := bucket.Names(r)
	lists(t, names, e, []string{"00a", "abc"}, api.OK)
	m := tree.At(r, 4)
	says(t, m.Put(name.VersionKey("abc", "k", 1), ""), api.OK)
	empty, e := bucket.Empty(r, "abc")
	tells(t, empty, e, false, api.OK)
	empty, e = bucket.Empty(r, "00a")
	tells(t, empty, e, true, api.OK)
	says(t, bucket.Drop(r, "abc"), api.NotEmpty)
	_, e = m.Delete(name.VersionKey("abc", "k", 1))
	says(t, e, api.OK)
	says(t, bucket.Drop(r, "abc"), api.OK)
	says(t, bucket.Drop(r, "abc"), api.NoBucket)
	names, e = bucket.Names(r)
	lists(t, names, e, []string{"00a"}, api.OK)
	says(t, bucket.Drop(r, "00a"), api.OK)
	used, e := r.Used()
	tells(t, used, e, 0, api.OK)
}

// P14.1, BadName: of each text that is no name all calls that take one answer it, in a room with buckets and in one without; of names Make, Find and Drop are as told, each beside all others.
func TestEachName(t *testing.T) {
	b := laid(t, 60)
	for _, left := range []string{"left", "right"} {
		for _, s := range noNames() {
			says(t, b.make(s, 1), api.BadName)
			says(t, b.setState(s, 1), api.BadName)
			says(t, b.setRule(s, api.Rule{}), api.BadName)
			says(t, b.drop(s), api.BadName)
			says(t, b.restore(api.Bucket{Name: s}), api.BadName)
			b.look(s)
		}
		for k, s := range someNames() {
			says(t, b.make(s, uint64(k)), api.OK)
			says(t, b.make(s, 99), api.BucketThere)
		}
		for k, s := range someNames() {
			says(t, b.setState(s, 1+k%2), api.OK)
			says(t, b.setRule(s, api.Rule{On: true, Prefix: s, After: uint64(k)}), api.OK)
		}
		for _, s := range someNames()[:9] {
			says(t, b.drop(s), api.OK)
			says(t, b.drop(s), api.NoBucket)
			says(t, b.setState(s, 1), api.NoBucket)
			says(t, b.setRule(s, api.Rule{}), api.NoBucket)
		}
		for _, s := range someNames()[9:] {
			says(t, b.drop(s), api.OK)
		}
		says(t, b.make(left, 5), api.OK)
	}
}

// P14.1, SetState: each state of a bucket of each: Kept or Suspended it becomes; none goes back to Off, nor to what is no state.
func TestSetState(t *testing.T) {
	b := laid(t, 40)
	for _, was := range []int{0, 1, 2} {
		for _, state := range states() {
			says(t, b.restore(api.Bucket{Name: "abc", State: was, Born: 5, Rule: fullRule()}), api.OK)
			want := api.BadAsk
			if state == 1 || state == 2 {
				want = api.OK
			}
			says(t, b.setState("abc", state), want)
			says(t, b.setState("abd", state), api.NoBucket)
		}
	}
	says(t, b.setState("abc", 1), api.OK)
	says(t, b.setState("abc", 1), api.OK)
}

// P14.1, SetRule: each rule, On and not, of a bucket that had none, and of one that had the longest.
func TestSetRule(t *testing.T) {
	b := laid(t, 40)
	b.lazy = true
	for _, was := range []api.Rule{{}, fullRule()} {
		for _, rule := range rules() {
			says(t, b.restore(api.Bucket{Name: "abc", State: 1, Born: math.MaxUint64, Rule: was}), api.OK)
			want := api.OK
			if !isRule(rule) {
				want = api.BadAsk
			}
			says(t, b.setRule("abc", rule), want)
			says(t, b.setRule("abd", rule), api.NoBucket)
			b.look("abc")
		}
	}
	b.lazy = false
	for on, want := range map[bool]api.Errno{true: api.OK, false: api.BadAsk} {
		says(t, b.setRule("abc", api.Rule{On: on, Prefix: "p"}), want)
		says(t, b.setRule("abc", api.Rule{On: on, Prefix: "\x00"}), want)
		says(t, b.setRule("abc", api.Rule{On: on, After: 1}), want)
		says(t, b.setRule("abc", api.Rule{On: on}), api.OK)
		says(t, b.setRule("abc", api.Rule{On: on, Prefix: strings.Repeat("p", 20)}), want)
		says(t, b.setRule("abc", api.Rule{On: on, Prefix: strings.Repeat("p", 21)}), api.BadAsk)
	}
}

// P14.1, Make: at each time; State Off, and no rule, though there was one of that name ahead.
func TestMake(t *testing.T) {
	b := laid(t, 40)
	for _, now := range numbers() {
		says(t, b.make("abc", now), api.OK)
		for _, again := range numbers() {
			says(t, b.make("abc", again), api.BucketThere)
		}
		says(t, b.setState("abc", 2), api.OK)
		says(t, b.setRule("abc", fullRule()), api.OK)
		says(t, b.make("abc", now), api.BucketThere)
		says(t, b.drop("abc"), api.OK)
	}
}

// P14.1, Restore: of each state, Born and rule, of a bucket that isn't there, and of one that is.
func TestRestore(t *testing.T) {
	b := laid(t, 40)
	b.lazy = true
	says(t, b.make("abc", 3), api.OK)
	says(t, b.make("abcd", 4), api.OK)
	for _, s := range []string{"abc", "new"} {
		for k, rule := range rules() {
			for j, state := range states() {
				x := api.Bucket{Name: s, State: state, Born: numbers()[(k+j)%len(numbers())], Rule: rule}
				want := api.OK
				if state < 0 || state > 2 || !isRule(rule) {
					want = api.BadAsk
				}
				says(t, b.restore(x), want)
			}
			b.look(s)
			if s == "new" && isRule(rule) {
				says(t, b.drop(s), api.OK)
			}
		}
	}
	b.lazy = false
	for _, born := range numbers() {
		says(t, b.restore(api.Bucket{Name: "abc", Born: born, State: 2, Rule: fullRule()}), api.OK)
		says(t, b.restore(api.Bucket{Name: "abc", Born: born}), api.OK)
		says(t, b.restore(api.Bucket{Name: "abc", Born: born}), api.OK)
	}
}

// underThings: what stands under a bucket: at the edges of items and of numbers.
func underThings(s string) []thing {
	var list []thing
	for _, item := range []string{"k", "\x01", "\xff", strings.Repeat("\xff", 40), "v", "u" + s} {
		for _, id := range []uint64{0, 1, math.MaxUint64} {
			list = append(list, thing{false, s, item, id}, thing{true, s, item, id})
		}
	}
	return list
}

// P14.1, Empty and Drop: with a version's key, with an upload's, with both and with neither under the bucket: each thing alone, and each with another one.
func TestEmptyAndDrop(t *testing.T) {
	b := laid(t, 60)
	for _, x := range underThings("abc") {
		for _, y := range []thing{x, {false, "abc", "k", 5}, {true, "abc", "k", 5}} {
			says(t, b.make("abc", 1), api.OK)
			b.lay(x)
			says(t, b.drop("abc"), api.NotEmpty)
			b.lay(y)
			says(t, b.drop("abc"), api.NotEmpty)
			b.take(x)
			if x != y {
				says(t, b.drop("abc"), api.NotEmpty)
				b.take(y)
			}
			says(t, b.drop("abc"), api.OK)
		}
	}
}

// P14.1, Empty and Drop: what stands under a bucket whose name is just less or just more, or begins it, or is begun by it, or stands under no bucket at all, doesn't matter.
func TestThingsUnderOthers(t *testing.T) {
	b := laid(t, 60)
	for _, there := range []bool{false, true} {
		for _, other := range someNames()[1:] {
			says(t, b.make("abc", 1), api.OK)
			if there {
				says(t, b.make(other, 1), api.OK)
			}
			for _, upload := range []bool{false, true} {
				b.lay(thing{upload, other, "abc", 1})
				b.lay(thing{upload, other, "abd", math.MaxUint64})
			}
			says(t, b.drop("abc"), api.OK)
			for _, x := range b.want.laid() {
				b.take(x)
			}
			if there {
				says(t, b.drop(other), api.OK)
			}
		}
	}
}

// P14.1, Empty: a part of an upload is none of these, nor is what somebody else has in another map.
func TestPartsAndOtherMaps(t *testing.T) {
	b := laid(t, 60)
	says(t, b.make("abc", 1), api.OK)
	m := tree.At(b.room(), 4)
	for _, id := range []uint64{0, 0x6162630061626300, math.MaxUint64} {
		says(t, m.Put(name.PartKey(id, 1), "part"), api.OK)
	}
	for place := range 16 {
		if place != 4 {
			says(t, tree.At(b.room(), place).Put(name.VersionKey("abc", "k", 1), "v"), api.OK)
			says(t, tree.At(b.room(), place).Put(name.BucketKey("abe"), "b"), api.OK)
		}
	}
	checkName(t, b.room(), b.want, "abc")
	checkName(t, b.room(), b.want, "abe")
	names, e := bucket.Names(b.room())
	lists(t, names, e, []string{"abc"}, api.OK)
	says(t, bucket.Drop(b.room(), "abc"), api.OK)
	n, e := m.Count()
	tells(t, n, e, 3, api.OK)
}

// P14.1, Restore: over a bucket with versions and uploads under it, and of one that isn't there, but has such: they stay.
func TestRestoreOverThings(t *testing.T) {
	b := laid(t, 60)
	for _, x := range underThings("abc") {
		b.lay(x)
	}
	says(t, b.drop("abc"), api.NoBucket)
	b.look("abc")
	for k, rule := range []api.Rule{{}, fullRule(), {On: true, Prefix: "k"}} {
		says(t, b.restore(api.Bucket{Name: "abc", State: k, Born: uint64(k), Rule: rule}), api.OK)
		says(t, b.drop("abc"), api.NotEmpty)
	}
	says(t, b.restore(api.Bucket{Name: "abc", State: 3}), api.BadAsk)
	says(t, b.setState("abc", 1), api.OK)
	says(t, b.setRule("abc", api.Rule{}), api.OK)
	for _, x := range underThings("abc") {
		says(t, b.drop("abc"), api.NotEmpty)
		b.take(x)
	}
	says(t, b.drop("abc"), api.OK)
}

// P14.1, Make: of a bucket that isn't there, but under which something stands: it isn't empty.
func TestMakeOverThings(t *testing.T) {
	b := laid(t, 60)
	b.lay(thing{false, "abc", "k", 1})
	b.lay(thing{true, "abd", "k", 1})
	says(t, b.make("abc", 1), api.OK)
	says(t, b.make("abd", 1), api.OK)
	says(t, b.drop("abc"), api.NotEmpty)
	says(t, b.drop("abd"), api.NotEmpty)
}

// R1, P14.1: which error comes first where several would fit: ErrDown, BadName, NoBucket or BucketThere, BadAsk or NotEmpty, ErrFull.
func TestWhichErrorComesFirst(t *testing.T) {
	b := laid(t, 30)
	says(t, b.make("abc", 1), api.OK)
	b.lay(thing{false, "abc", "k", 1})
	b.lay(thing{true, "abd", "k", 1})
	says(t, b.fillUp(), api.ErrFull)
	wrong, wrongRule := math.MaxInt, api.Rule{Prefix: "p"}
	for _, s := range noNames() {
		says(t, b.make(s, 1), api.BadName)
		says(t, b.setState(s, wrong), api.BadName)
		says(t, b.setRule(s, wrongRule), api.BadName)
		says(t, b.restore(api.Bucket{Name: s, State: wrong, Rule: wrongRule}), api.BadName)
		says(t, b.restore(api.Bucket{Name: s}), api.BadName)
	}
	says(t, b.setState("abd", wrong), api.NoBucket)
	says(t, b.setRule("abd", wrongRule), api.NoBucket)
	says(t, b.drop("abd"), api.NoBucket)
	says(t, b.setState("abc", wrong), api.BadAsk)
	says(t, b.setRule("abc", wrongRule), api.BadAsk)
	says(t, b.make("abc", 1), api.BucketThere)
	says(t, b.drop("abc"), api.NotEmpty)
	for _, s := range []string{"abc", "abd"} {
		says(t, b.restore(api.Bucket{Name: s, State: wrong}), api.BadAsk)
		says(t, b.restore(api.Bucket{Name: s, Rule: wrongRule}), api.BadAsk)
	}
	says(t, b.make("abd", 1), api.ErrFull)
	says(t, b.restore(api.Bucket{Name: "abd"}), api.ErrFull)
	b.bringDown()
	downs(t, b.room())
}

// fillUp: somebody else takes all pages, and things are laid under a bucket till there is no room for one more of a name of three bytes; it tells what Make of it is answered then.
func (b *bench) fillUp() api.Errno {
	b.t.Helper()
	b.leave(0)
	for id := uint64(0); id < 99; id++ {
		if e := b.make("abe", 1); e == api.ErrFull {
			return e
		}
		says(b.t, b.drop("abe"), api.OK)
		b.lay(thing{false, "000", "k", id})
	}
	return api.OK
}

// downs: that each call of a room answers ErrDown, and nothing beside it.
func downs(t *testing.T, r *room.Room) {
	t.Helper()
	for _, s := range append(someNames(), noNames()...) {
		says(t, bucket.Make(r, s, 1), api.ErrDown)
		found, e := bucket.Find(r, s)
		tells(t, found, e, api.Bucket{}, api.ErrDown)
		empty, e := bucket.Empty(r, s)
		tells(t, empty, e, false, api.ErrDown)
		says(t, bucket.Drop(r, s), api.ErrDown)
		for _, state := range states() {
			says(t, bucket.SetState(r, s, state), api.ErrDown)
			says(t, bucket.Restore(r, api.Bucket{Name: s, State: state}), api.ErrDown)
		}
		for _, rule := range []api.Rule{{}, fullRule(), {Prefix: "p"}, {After: 1}} {
			says(t, bucket.SetRule(r, s, rule), api.ErrDown)
			says(t, bucket.Restore(r, api.Bucket{Name: s, Rule: rule}), api.ErrDown)
		}
	}
	names, e := bucket.Names(r)
	lists(t, names, e, nil, api.ErrDown)
}

// R2: of a nil room, a zero one, and of rooms of changes and logs that are none: ErrDown.
func TestNil(t *testing.T) {
	rooms := map[string]*room.Room{
		"nil":        nil,
		"zero":       {},
		"nil change": room.Of(nil),
		"nil log":    room.Of(tx.Begin(nil)),
		"zero log":   room.Of(tx.Begin(&wal.Log{})),
	}
	for name, r := range rooms {
		t.Run(name, func(t *testing.T) { downs(t, r) })
	}
}

// P14.1: of a room whose log has gone down each call answers ErrDown, of both rooms; opened again, what was committed is there, and nothing else.
func TestLogThatIsDown(t *testing.T) {
	b := laid(t, 60)
	says(t, b.make("abc", 1), api.OK)
	says(t, b.make("abd", 2), api.OK)
	b.lay(thing{false, "abd", "k", 1})
	b.commit()
	says(t, b.make("abe", 3), api.OK)
	says(t, b.drop("abc"), api.OK)
	says(t, b.setState("abd", 1), api.OK)
	b.bringDown()
	downs(t, b.rooms[0])
	downs(t, b.rooms[1])
	b.reopen()
	found, e := bucket.Find(b.room(), "abd")
	tells(t, found, e, api.Bucket{Name: "abd", Born: 2}, api.OK)
	names, e := bucket.Names(b.room())
	lists(t, names, e, []string{"abc", "abd"}, api.OK)
	says(t, b.make("abe", 4), api.OK)
	says(t, b.drop("abd"), api.NotEmpty)
	says(t, b.drop("abc"), api.OK)
}

// P14.1: two rooms' changes: what one does shows in the other behind Commit alone, and nowhere when it is given up; each call, by either; and it is there when the log is opened again.
func TestTwoRooms(t *testing.T) {
	calls := []func(b *bench){
		func(b *bench) { says(b.t, b.make("new", 9), api.OK) },
		func(b *bench) { says(b.t, b.setState("abc", 2), api.OK) },
		func(b *bench) { says(b.t, b.setRule("abc", fullRule()), api.OK) },
		func(b *bench) { says(b.t, b.drop("abd"), api.OK) },
		func(b *bench) { says(b.t, b.restore(api.Bucket{Name: "abcd", State: 2, Rule: fullRule()}), api.OK) },
		func(b *bench) { says(b.t, b.restore(api.Bucket{Name: "newer", State: 1, Born: 4}), api.OK) },
	}
	for _, call := range calls {
		for range 2 {
			b := laid(t, 60)
			for k, s := range someNames() {
				says(t, b.make(s, uint64(k)), api.OK)
			}
			b.commit()
			for range 2 {
				was := b.now()
				call(b)
				b.forget()
				b.unchanged(was)
				mark := b.mark()
				call(b)
				b.back(mark)
				b.unchanged(was)
			}
			call(b)
			b.commit()
			b.reopen()
			b.commit()
			b.reopen()
		}
	}
}

// spoil: overwrites a text's bytes, so that whoever shares them has another one.
func spoil(s string) {
	for k := range len(s) {
		*(*byte)(unsafe.Add(unsafe.Pointer(unsafe.StringData(s)), k)) = 'y'
	}
}

// given: a text whose bytes nobody else has.
func given(s string) string {
	bytes := []byte(s)
	return unsafe.String(unsafe.SliceData(bytes), len(bytes))
}

// R4: what a call hands out or takes is shared with nothing.
func TestSharesNothing(t *testing.T) {
	b := laid(t, 60)
	for k, s := range someNames() {
		want := api.Bucket{Name: s, State: 1, Born: uint64(k), Rule: api.Rule{On: true, Prefix: "prefix" + s[:3]}}
		b.made(want)
		b.want.buckets[s] = want
		b.check()
	}
	b.sharesNoAnswers()
	says(t, b.make("new", 1), api.OK)
	b.commit()
	b.reopen()
	b.sharesNoAnswers()
	for k, s := range someNames() {
		asked := given(s)
		says(t, bucket.Drop(b.room(), asked), api.OK)
		spoil(asked)
		delete(b.want.buckets, s)
		b.check()
		want := api.Bucket{Name: s, Born: uint64(k), Rule: fullRule()}
		asked, prefix := given(s), given(want.Rule.Prefix)
		says(t, bucket.Restore(b.room(), api.Bucket{Name: asked, Born: uint64(k), Rule: api.Rule{On: true, Prefix: prefix, After: want.Rule.After}}), api.OK)
		spoil(asked)
		spoil(prefix)
		b.want.buckets[s] = want
		b.check()
	}
}

// made: makes a bucket of texts that are overwritten behind each call.
func (b *bench) made(x api.Bucket) {
	b.t.Helper()
	calls := []func(s, prefix string) api.Errno{
		func(s, _ string) api.Errno { return bucket.Make(b.room(), s, x.Born) },
		func(s, _ string) api.Errno { return bucket.SetState(b.room(), s, x.State) },
		func(s, prefix string) api.Errno {
			return bucket.SetRule(b.room(), s, api.Rule{On: true, Prefix: prefix, After: x.Rule.After})
		},
	}
	for _, call := range calls {
		s, prefix := given(x.Name), given(x.Rule.Prefix)
		says(b.t, call(s, prefix), api.OK)
		tells(b.t, s+prefix, api.OK, x.Name+x.Rule.Prefix, api.OK)
		spoil(s)
		spoil(prefix)
	}
}

// sharesNoAnswers: what Find and Names hand out.
func (b *bench) sharesNoAnswers() {
	b.t.Helper()
	for _, s := range someNames() {
		asked := given(s)
		found, e := bucket.Find(b.room(), asked)
		spoil(asked)
		tells(b.t, found, e, b.want.buckets[s], api.OK)
		again, e := bucket.Find(b.room(), s)
		spoil(found.Name)
		spoil(found.Rule.Prefix)
		tells(b.t, again, e, b.want.buckets[s], api.OK)
		b.check()
	}
	names, e := bucket.Names(b.room())
	says(b.t, e, api.OK)
	again, e := bucket.Names(b.room())
	for k := range names {
		spoil(names[k])
		lists(b.t, names[k+1:], e, again[k+1:], api.OK)
		names[k] = "other"
	}
	b.check()
}

// R7: the same calls leave the same homes, whatever was done and taken back between.
func TestSameCallsSameHomes(t *testing.T) {
	run := func(between func(b *bench, k int)) []string {
		b := laid(t, 60)
		b.lazy = true
		for k, s := range someNames() {
			b.make(s, uint64(k))
			between(b, k)
			b.setState(s, 1+k%2)
			b.setRule(s, api.Rule{On: true, Prefix: s})
			between(b, k)
			b.drop(someNames()[k/2])
			b.restore(api.Bucket{Name: "abc", Born: uint64(k)})
		}
		b.lazy = false
		return b.now().homes
	}
	want := run(func(b *bench, k int) {})
	got := run(func(b *bench, k int) {
		mark := b.mark()
		b.make("between", uint64(k))
		b.setState("between", 1)
		b.drop(someNames()[k])
		b.back(mark)
		b.setState(someNames()[k], 0)
		b.restore(api.Bucket{Name: "no name"})
		b.look(someNames()[k])
	})
	if !slices.Equal(got, want) {
		t.Fatal("other homes")
	}
}
