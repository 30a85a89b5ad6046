package listing_test

import (
	"fmt"
	"math/rand"
	"slices"
	"strings"
	"testing"
	"time"

	"cooperage/api"
	"cooperage/bucket"
	"cooperage/chunks"
	"cooperage/listing"
	"cooperage/room"
	"cooperage/sector"
	"cooperage/tx"
	"cooperage/version"
	"cooperage/wal"
)

// one: of a list, drawn.
func one[V any](source *rand.Rand, list []V) V {
	return list[source.Intn(len(list))]
}

// drawnText: n bytes of few kinds.
func drawnText(source *rand.Rand, n int) string {
	text := make([]byte, n)
	for k := range text {
		text[k] = "aaab//\x01\x80\xff"[source.Intn(9)]
	}
	return string(text)
}

// drawnItem: mostly a short key; now and then one of 38 to 40 bytes.
func drawnItem(source *rand.Rand) string {
	if source.Intn(12) == 0 {
		return strings.Repeat(one(source, []string{"a", "/", "\xff"}), 37) + drawnText(source, 1+source.Intn(3))
	}
	return drawnText(source, 1+source.Intn(5))
}

// drawnOf: a key that items have or had, a beginning or a piece of one, or a text that is like one.
func drawnOf(source *rand.Rand, items []string) string {
	if len(items) == 0 || source.Intn(5) == 0 {
		return drawnItem(source)
	}
	item := one(source, items)
	from := source.Intn(len(item))
	switch source.Intn(5) {
	case 0, 1:
		return item[:from]
	case 2:
		return item[from : from+source.Intn(min(3, len(item)-from)+1)]
	case 3:
		return (item + drawnText(source, 1))[:min(40, len(item)+1)]
	}
	return item
}

// drawnToken: mostly none, or one of an item, or of a group; now and then what is no token.
func drawnToken(source *rand.Rand, items []string) string {
	switch source.Intn(24) {
	case 0:
		return one(source, noTokens())
	case 1:
		return one(source, tokens())
	case 2, 3, 4, 5, 6, 7, 8, 9, 10, 11:
		if text := drawnOf(source, items); text != "" {
			return tokenOf(one(source, []string{"k", "p"}) + text)
		}
	}
	return ""
}

// drawnLimit: mostly small; now and then 100, or none.
func drawnLimit(source *rand.Rand) int {
	switch source.Intn(24) {
	case 0:
		return one(source, noLimits())
	case 1, 2, 3, 4, 5:
		return 100
	}
	return 1 + source.Intn(7)
}

// keys: of all items that a bucket has or had.
func (b *bench) keys(s string) []string {
	var list []string
	for item := range b.want.items[s] {
		list = append(list, item)
	}
	slices.Sort(list)
	return list
}

// ask: a drawn listing.
func (b *bench) ask(source *rand.Rand) {
	b.t.Helper()
	s := one(source, someBuckets())
	items := b.keys(s)
	prefix, delim, limit, token := "", "", drawnLimit(source), drawnToken(source, items)
	if source.Intn(2) == 0 {
		prefix = drawnOf(source, items)
	}
	if source.Intn(4) > 0 {
		delim = one(source, []string{"/", "a", "aa", "/a", "//", "aba", "\xff", "\x80", drawnText(source, 1+source.Intn(3)), drawnOf(source, items)})
	}
	switch source.Intn(30) {
	case 0:
		s = one(source, append(noBuckets(), "none", "abcc"))
	case 1:
		prefix = one(source, noTexts())
	case 2:
		delim = one(source, noTexts())
	}
	b.list(s, prefix, delim, limit, token)
}

// act: something drawn that changes what is to be listed.
func (b *bench) act(source *rand.Rand) {
	b.t.Helper()
	s, item := one(source, someBuckets()), drawnItem(source)
	if keys := b.keys(s); len(keys) > 0 && source.Intn(2) == 0 {
		item = one(source, keys)
	}
	switch source.Intn(30) {
	case 0:
		b.set(s, source.Intn(3))
	case 1, 2:
		b.commit()
	case 3:
		b.reopen()
	case 4, 5, 6, 7, 8, 9:
		b.delete(s, item, uint64(source.Intn(1000)))
	case 10, 11, 12:
		b.remove(s, item, source.Intn(3))
	default:
		b.put(s, item, source.Intn(4)*50, uint64(source.Intn(1000)))
	}
}

// P16.1: drawn buckets, whose items have versions, plain ones and numbered ones, and markers, listed with drawn prefixes, delimiters, limits and tokens, between any two changes; nothing is changed by any of it.
func TestDrawnListings(t *testing.T) {
	for seed := range 12 {
		source := rand.New(rand.NewSource(int64(seed)))
		b := laid(t, 400)
		for k := range 200 {
			b.act(source)
			was := b.now()
			for range 20 {
				b.ask(source)
			}
			if k%5 == 0 {
				b.unchanged(was)
			}
		}
		b.commit()
		b.bringDown()
		for range 20 {
			b.ask(source)
		}
		b.reopen()
		for range 50 {
			b.ask(source)
		}
		if n := b.tally; min(n.items, n.groups, n.more, n.nothing, n.behind) < n.lists/10 || min(n.both, n.errors) < n.lists/20 {
			t.Errorf("%+v", n)
		}
	}
}

// P16.1: the drawn listings of a bucket with many items, in a map of several levels.
func TestDrawnManyItems(t *testing.T) {
	source := rand.New(rand.NewSource(9))
	b := laid(t, 3000)
	for range 1500 {
		b.act(source)
	}
	for range 3000 {
		b.ask(source)
	}
}

// paged: from token to token, with limits drawn anew for each page, what is told of a bucket, each telling behind k or p, in the order of pages.
func (b *bench) paged(source *rand.Rand, s, prefix, delim string, limit func(source *rand.Rand) int) []string {
	b.t.Helper()
	var told []string
	for token, pages := "", 0; ; pages++ {
		if pages > 5000 {
			b.t.Fatal("there is always more")
		}
		n := limit(source)
		list, e := listing.List(b.room, s, prefix, delim, n, token)
		says(b.t, e, api.OK)
		var page []string
		for _, x := range list.Entries {
			if x != b.want.entry(s, x.Key) {
				b.t.Fatalf("%v", x)
			}
			page = append(page, "k"+x.Key)
		}
		for _, group := range list.Prefixes {
			page = append(page, "p"+group)
		}
		// Within a page items and groups stand apart; no item begins with a group, so that their texts tell their order.
		slices.SortFunc(page, func(x, y string) int { return strings.Compare(x[1:], y[1:]) })
		told = append(told, page...)
		if !list.More {
			if list.Token != "" || len(page) > n {
				b.t.Fatalf("%d told, limit %d; a token of %q", len(page), n, toldBy(list.Token))
			}
			return told
		}
		if len(page) != n || list.Token != tokenOf(page[n-1]) {
			b.t.Fatalf("%d told, limit %d; a token of %q", len(page), n, toldBy(list.Token))
		}
		token = list.Token
	}
}

// P16.2: from token to token, with any limits, all is told that is told at once, each telling once, with and without a delimiter, of each prefix.
func TestPages(t *testing.T) {
	limits := []func(source *rand.Rand) int{
		func(source *rand.Rand) int { return 1 },
		func(source *rand.Rand) int { return 2 },
		func(source *rand.Rand) int { return 100 },
		func(source *rand.Rand) int { return 1 + source.Intn(5) },
		func(source *rand.Rand) int { return 1 + source.Intn(100) },
	}
	for seed, acts := range []int{0, 10, 60, 400, 1200} {
		source := rand.New(rand.NewSource(int64(seed)))
		b := laid(t, 3000)
		for range acts {
			b.act(source)
		}
		for range 60 {
			s := one(source, someBuckets())
			prefix, delim := "", one(source, []string{"", "/", "a", "aa", "//", "/a", "b", drawnText(source, 2)})
			if source.Intn(3) == 0 {
				prefix = drawnOf(source, b.keys(s))
			}
			want := b.want.tellings(s, prefix, delim, "")
			got := b.paged(source, s, prefix, delim, one(source, limits))
			if !slices.Equal(got, want) {
				t.Fatalf("%s, prefix %q, delimiter %q: %q, not %q", s, prefix, delim, got, want)
			}
			if len(want) > 100 {
				continue
			}
			at := b.list(s, prefix, delim, 100, "")
			if at.More || len(at.Entries)+len(at.Prefixes) != len(got) {
				t.Fatalf("%d told at once, %d by pages", len(at.Entries)+len(at.Prefixes), len(got))
			}
		}
	}
}

// P16.2: what is put and what goes between pages is told or not by where it stands; all that was there all the while is told, once.
func TestPagesOfWhatChanges(t *testing.T) {
	for seed := range 20 {
		source := rand.New(rand.NewSource(int64(seed)))
		b := laid(t, 600)
		for range 150 {
			b.act(source)
		}
		for _, delim := range []string{"", "/"} {
			s := one(source, someBuckets())
			were, told := b.want.tellings(s, "", delim, ""), map[string]int{}
			for token, more := "", true; more; {
				list := b.list(s, "", delim, 1+source.Intn(4), token)
				for _, x := range list.Entries {
					told["k"+x.Key]++
				}
				for _, group := range list.Prefixes {
					told["p"+group]++
				}
				token, more = list.Token, list.More
				for range 3 {
					b.act(source)
					now := b.want.tellings(s, "", delim, "")
					were = slices.DeleteFunc(were, func(x string) bool { return !slices.Contains(now, x) })
				}
			}
			for x, n := range told {
				if n > 1 {
					t.Fatalf("%q is told %d times", x, n)
				}
			}
			for _, x := range were {
				if told[x] == 0 {
					t.Fatalf("%q isn't told", x)
				}
			}
		}
	}
}

// P0: in a room as great as a disk may be, with many items, many of them gone, all ends soon, whatever the length of what is asked.
func TestEndsSoon(t *testing.T) {
	start := time.Now()
	d, e := sector.New(api.MaxSectors)
	says(t, e, api.OK)
	l, e := wal.Open(d, 4)
	says(t, e, api.OK)
	r := room.Of(tx.Begin(l))
	s := chunks.At(r)
	says(t, bucket.Restore(r, api.Bucket{Name: "abc", State: api.Kept}), api.OK)
	for k := range 15000 {
		item := fmt.Sprintf("%d/%05d", k%10, k)
		if k%10 < 5 {
			_, e = version.Delete(r, s, "abc", item, 1)
		} else {
			_, e = version.Put(r, s, "abc", item, nil, 1)
		}
		says(t, e, api.OK)
	}
	for range 4 {
		got, e := listing.List(r, "abc", "", "/", 100, "")
		same(t, got, e, api.List{Prefixes: []string{"5/", "6/", "7/", "8/", "9/"}}, api.OK)
		got, e = listing.List(r, "abc", "", "", 100, "")
		says(t, e, api.OK)
		if len(got.Entries) != 100 || got.Entries[0].Key != "5/00005" || !got.More {
			t.Fatal(shown(got))
		}
	}
	huge := strings.Repeat("a", 1<<22)
	for _, asked := range [][4]string{{huge, "", "", ""}, {"abc", huge, "", ""}, {"abc", "", huge, ""}, {"abc", "", "", huge}, {"abc", "", "", tokenOf(huge)}, {huge, huge, huge, huge}} {
		got, e := listing.List(r, asked[0], asked[1], asked[2], 100, asked[3])
		if e != api.BadName && e != api.BadAsk && e != api.BadToken {
			t.Fatal(e)
		}
		same(t, got, e, api.List{}, e)
	}
	if took := time.Since(start); took > time.Minute {
		t.Errorf("%v", took)
	}
}
