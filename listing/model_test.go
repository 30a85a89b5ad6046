package listing_test

import (
	"encoding/hex"
	"fmt"
	"hash/crc32"
	"maps"
	"regexp"
	"slices"
	"strings"
	"testing"

	"cooperage/api"
	"cooperage/bucket"
	"cooperage/chunks"
	"cooperage/listing"
	"cooperage/recipe"
	"cooperage/room"
	"cooperage/sector"
	"cooperage/tx"
	"cooperage/version"
	"cooperage/wal"
)

// Listings in the document's words.

// names: 3 to 16 of a to z, digits and -, no - first or last.
var names = regexp.MustCompile(`\A[a-z0-9][a-z0-9-]{1,14}[a-z0-9]\z`)

// digits: a token's, of base 16, two for each byte.
var digits = regexp.MustCompile(`\A([0-9a-f]{2})+\z`)

// tokenOf: the check sum of a text in eight digits, by the language's library, and the text's digits.
func tokenOf(text string) string {
	return fmt.Sprintf("%08x", crc32.ChecksumIEEE([]byte(text))) + hex.EncodeToString([]byte(text))
}

// toldBy: the text of a token; "" of what is none.
func toldBy(token string) string {
	if len(token) < 8 || !digits.MatchString(token) {
		return ""
	}
	text, err := hex.DecodeString(token[8:])
	if err != nil || tokenOf(string(text)) != token {
		return ""
	}
	return string(text)
}

// isToken: "", or one of k or p and 1 to 40 bytes, none of them 0.
func isToken(token string) bool {
	text := toldBy(token)
	if text == "" {
		return token == ""
	}
	return (text[0] == 'k' || text[0] == 'p') && len(text) >= 2 && len(text) <= 41 && !strings.Contains(text, "\x00")
}

// right: the BadAsk or BadToken of what is asked.
func right(prefix, delim string, limit int, token string) api.Errno {
	switch {
	case limit < 1, limit > 100, len(prefix) > 40, len(delim) > 40, strings.Contains(prefix+delim, "\x00"):
		return api.BadAsk
	case !isToken(token):
		return api.BadToken
	}
	return api.OK
}

// isBehind: whether tellings of an item go on behind a token: of k, those of items above its key; of p, those of items above its group that don't begin with it.
func isBehind(item, token string) bool {
	text := toldBy(token)
	switch {
	case token == "":
		return true
	case text[0] == 'k':
		return item > text[1:]
	}
	return item > text[1:] && !strings.HasPrefix(item, text[1:])
}

// telling: k and an item's key, or p and the group by which it is told: what it has up to the end of the first place behind the prefix where the delimiter stands.
func telling(item, prefix, delim string) string {
	for end := len(prefix) + len(delim); delim != "" && end <= len(item); end++ {
		if strings.HasSuffix(item[:end], delim) {
			return "p" + item[:end]
		}
	}
	return "k" + item
}

// held: a room: its buckets' States by their names; the versions of items, by buckets and keys, the latest last; the last number.
type held struct {
	states map[string]int
	items  map[string]map[string][]api.Version
	last   uint64
}

func (h *held) copied() *held {
	c := &held{maps.Clone(h.states), map[string]map[string][]api.Version{}, h.last}
	for s, items := range h.items {
		c.items[s] = map[string][]api.Version{}
		for item, list := range items {
			c.items[s][item] = slices.Clone(list)
		}
	}
	return c
}

// there: the keys of a bucket's items, rising: those whose latest version isn't a marker.
func (h *held) there(s string) []string {
	var list []string
	for item, versions := range h.items[s] {
		if len(versions) > 0 && !versions[len(versions)-1].Marker {
			list = append(list, item)
		}
	}
	slices.Sort(list)
	return list
}

// tellings: all of them behind a token, each once, in the order of the items.
func (h *held) tellings(s, prefix, delim, token string) []string {
	var told []string
	were := map[string]int{}
	for _, item := range h.there(s) {
		if !strings.HasPrefix(item, prefix) || !isBehind(item, token) {
			continue
		}
		one := telling(item, prefix, delim)
		if were[one] == 0 {
			told = append(told, one)
		}
		were[one]++
	}
	return told
}

func (h *held) entry(s, item string) api.Entry {
	v := h.items[s][item][len(h.items[s][item])-1]
	return api.Entry{Key: item, ID: v.ID, Size: v.Size, Born: v.Born}
}

func (h *held) list(s, prefix, delim string, limit int, token string) (api.List, api.Errno) {
	_, there := h.states[s]
	switch e := right(prefix, delim, limit, token); {
	case !names.MatchString(s):
		return api.List{}, api.BadName
	case !there:
		return api.List{}, api.NoBucket
	case e != api.OK:
		return api.List{}, e
	}
	var list api.List
	for k, one := range h.tellings(s, prefix, delim, token) {
		if k == limit {
			list.More = true
			break
		}
		list.Token = tokenOf(one)
		if one[0] == 'k' {
			list.Entries = append(list.Entries, h.entry(s, one[1:]))
		} else {
			list.Prefixes = append(list.Prefixes, one[1:])
		}
	}
	if !list.More {
		list.Token = ""
	}
	return list, api.OK
}

// add: a version with a number of its own; of a plain one the plain one that the item had goes.
func (h *held) add(s, item string, v api.Version) {
	h.last++
	v.Bucket, v.Key, v.ID, v.Plain = s, item, h.last, h.states[s] != 1
	if v.Plain {
		h.givePlain(s, item)
	}
	if h.items[s] == nil {
		h.items[s] = map[string][]api.Version{}
	}
	h.items[s][item] = append(h.items[s][item], v)
}

func (h *held) givePlain(s, item string) {
	if list := h.items[s][item]; len(list) > 0 {
		h.items[s][item] = slices.DeleteFunc(list, func(v api.Version) bool { return v.Plain })
	}
}

// delete: as layer 15's.
func (h *held) delete(s, item string, now uint64) {
	if h.states[s] == 0 {
		h.givePlain(s, item)
		return
	}
	h.add(s, item, api.Version{Marker: true, Born: now})
}

// bench: a room of a log, and the same in the document's words.
type bench struct {
	t      *testing.T
	disk   *sector.Disk
	log    *wal.Log
	change *tx.Tx
	room   *room.Room
	homes  int
	down   bool
	want   *held // what the room has
	firm   *held // what the log has
	tally  tally
}

// tally: how many listings there were, and of these how many told items, groups, both, that there is more, nothing, and errors; and how many went on behind a token.
type tally struct {
	lists, items, groups, both, more, nothing, errors, behind int
}

// ring: sectors of the log's ring.
const ring = 700

// laid: a room of so many pages, with three buckets, one for each State.
func laid(t *testing.T, pages int) *bench {
	t.Helper()
	homes := 1 + pages + (pages+4095)/4096
	d, e := sector.New(1 + ring + homes)
	says(t, e, api.OK)
	b := &bench{t: t, disk: d, homes: homes}
	b.firm = &held{states: map[string]int{}, items: map[string]map[string][]api.Version{}}
	b.open()
	for state, s := range someBuckets() {
		b.set(s, state)
	}
	b.commit()
	return b
}

// open: the log on the disk, with a change and a room of its own.
func (b *bench) open() {
	b.t.Helper()
	l, e := wal.Open(b.disk, ring)
	says(b.t, e, api.OK)
	b.log, b.down = l, false
	b.change = tx.Begin(l)
	b.room = room.Of(b.change)
	b.want = b.firm.copied()
}

func says(t *testing.T, got, want api.Errno) {
	t.Helper()
	if got != want {
		t.Fatalf("%d, not %d", got, want)
	}
}

// same: that a call told such a listing, and such an error.
func same(t *testing.T, got api.List, e api.Errno, want api.List, wantErr api.Errno) {
	t.Helper()
	if !slices.Equal(got.Entries, want.Entries) || !slices.Equal(got.Prefixes, want.Prefixes) || got.More != want.More || got.Token != want.Token || e != wantErr {
		t.Fatalf("%q, %d, not %q, %d", shown(got), e, shown(want), wantErr)
	}
}

// shown: a listing: its items, its groups behind a |, and behind a > what its token stands for, if there is more.
func shown(list api.List) string {
	var words []string
	for _, x := range list.Entries {
		words = append(words, x.Key)
	}
	if len(list.Prefixes) > 0 {
		words = append(words, "|")
	}
	words = append(words, list.Prefixes...)
	if list.More || list.Token != "" {
		words = append(words, ">", toldBy(list.Token))
	}
	return strings.Join(words, " ")
}

// state: of the change's homes, and how many puts it has.
type state struct {
	mark  int
	homes []string
}

// now: the state; of a log that is down, without the homes.
func (b *bench) now() state {
	b.t.Helper()
	now := state{mark: b.change.Mark()}
	for i := range b.homes {
		if b.down {
			break
		}
		s, e := b.change.Read(i)
		says(b.t, e, api.OK)
		now.homes = append(now.homes, s)
	}
	return now
}

// unchanged: that all is as it was.
func (b *bench) unchanged(was state) {
	b.t.Helper()
	now := b.now()
	if now.mark != was.mark || !slices.Equal(now.homes, was.homes) {
		b.t.Fatal("what only looks has changed something")
	}
}

// list: that List answers as the model does, and Right what List answers of a bucket that is there; and that nothing is put by it.
func (b *bench) list(s, prefix, delim string, limit int, token string) api.List {
	b.t.Helper()
	want, wantErr := b.want.list(s, prefix, delim, limit, token)
	if b.down {
		want, wantErr = api.List{}, api.ErrDown
	}
	mark := b.change.Mark()
	got, e := listing.List(b.room, s, prefix, delim, limit, token)
	same(b.t, got, e, want, wantErr)
	if b.change.Mark() != mark {
		b.t.Fatal("what only looks has changed something")
	}
	says(b.t, listing.Right(prefix, delim, limit, token), right(prefix, delim, limit, token))
	b.count(want, wantErr, token)
	return got
}

// count: one more listing.
func (b *bench) count(list api.List, e api.Errno, token string) {
	add := func(sum *int, is bool) {
		if is {
			*sum++
		}
	}
	items, groups := len(list.Entries) > 0, len(list.Prefixes) > 0
	add(&b.tally.lists, true)
	add(&b.tally.items, items)
	add(&b.tally.groups, groups)
	add(&b.tally.both, items && groups)
	add(&b.tally.more, list.More)
	add(&b.tally.nothing, e == api.OK && !items && !groups)
	add(&b.tally.errors, e != api.OK)
	add(&b.tally.behind, e == api.OK && token != "")
}

// told: what List answers of a bucket that is there, in words.
func (b *bench) told(s, prefix, delim string, limit int, token, want string) {
	b.t.Helper()
	if got := shown(b.list(s, prefix, delim, limit, token)); got != want {
		b.t.Errorf("prefix %q, delimiter %q, limit %d, token of %q: %q, not %q", prefix, delim, limit, toldBy(token), got, want)
	}
}

// told1: what List answers of the first bucket, of whose tellings there are at most 100.
func (b *bench) told1(prefix, delim, want string) {
	b.t.Helper()
	b.told("abc", prefix, delim, 100, "", want)
}

// set: a bucket's State, whether there is one of that name or not.
func (b *bench) set(s string, state int) {
	b.t.Helper()
	says(b.t, bucket.Restore(b.room, api.Bucket{Name: s, State: state}), api.OK)
	b.want.states[s] = state
}

// put: an item of so many bytes.
func (b *bench) put(s, item string, size int, now uint64) {
	b.t.Helper()
	store := chunks.At(b.room)
	refs, e := recipe.Build(store, strings.Repeat("x", size))
	says(b.t, e, api.OK)
	v, e := version.Put(b.room, store, s, item, refs, now)
	says(b.t, e, api.OK)
	b.want.add(s, item, api.Version{Size: size, Born: now})
	if v.ID != b.want.last {
		b.t.Fatalf("number %d, not %d", v.ID, b.want.last)
	}
}

// putAll: items without bytes.
func (b *bench) putAll(s string, items ...string) {
	b.t.Helper()
	for _, item := range items {
		b.put(s, item, 0, 1)
	}
}

func (b *bench) delete(s, item string, now uint64) {
	b.t.Helper()
	_, e := version.Delete(b.room, chunks.At(b.room), s, item, now)
	says(b.t, e, api.OK)
	b.want.delete(s, item, now)
}

// remove: an item's version, by its place among its versions, the latest first; nothing, if it hasn't so many.
func (b *bench) remove(s, item string, at int) {
	b.t.Helper()
	list := b.want.items[s][item]
	at = len(list) - 1 - at
	if at < 0 {
		return
	}
	says(b.t, version.Remove(b.room, chunks.At(b.room), s, item, list[at].ID), api.OK)
	b.want.items[s][item] = slices.Delete(list, at, at+1)
}

// commit: what the room has is what the log has then.
func (b *bench) commit() {
	b.t.Helper()
	says(b.t, b.change.Commit(), api.OK)
	b.firm = b.want.copied()
}

// bringDown: brings the log down, by a step of its own.
func (b *bench) bringDown() {
	b.t.Helper()
	b.disk.Fuel(0)
	says(b.t, b.log.Commit([]api.Put{{At: 0, Text: "down"}}), api.ErrDown)
	b.down = true
}

// reopen: the log is opened again behind a fall.
func (b *bench) reopen() {
	b.t.Helper()
	b.disk.Fall(nil)
	b.open()
}
