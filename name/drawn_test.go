package name_test

import (
	"cmp"
	"math/rand"
	"slices"
	"strings"
	"testing"

	"cooperage/name"
)

// drawnText: n bytes of any kind; often of few kinds.
func drawnText(source *rand.Rand, n int) string {
	text := make([]byte, n)
	source.Read(text)
	if source.Intn(2) == 0 {
		for i := range text {
			text[i] = "\x00\x01a-\xfe\xffz9"[text[i]%8]
		}
	}
	return string(text)
}

// drawnBucket: mostly a bucket's name; now and then a text that isn't one, or nearly is.
func drawnBucket(source *rand.Rand) string {
	const letters = "abcdefghijklmnopqrstuvwxyz0123456789"
	text := []byte(drawnText(source, 1+source.Intn(18)))
	for i := range text {
		text[i] = letters[int(text[i])%len(letters)]
		if i > 0 && i < len(text)-1 && source.Intn(4) == 0 {
			text[i] = '-'
		}
	}
	return spoilt(source, string(text))
}

// drawnItem: mostly an item's key; now and then a text that isn't one, or nearly is.
func drawnItem(source *rand.Rand) string {
	text := drawnText(source, source.Intn(43))
	return spoilt(source, strings.ReplaceAll(text, "\x00", "\x01"))
}

// spoilt: a text, now and then with one byte changed.
func spoilt(source *rand.Rand, text string) string {
	if text == "" || source.Intn(5) > 0 {
		return text
	}
	return changed(source, text)
}

// changed: a text with one byte changed, left out or put in, or its end cut off, or with some behind it.
func changed(source *rand.Rand, text string) string {
	at := source.Intn(len(text) + 1)
	one := drawnText(source, 1)
	switch source.Intn(5) {
	case 0:
		return text[:at]
	case 1:
		return text[:at] + one + text[at:]
	case 2:
		return text[:at] + text[min(at+1, len(text)):]
	case 3:
		return text[:at] + one + text[min(at+1, len(text)):]
	}
	return text + drawnText(source, 1+source.Intn(9))
}

// drawnNumber: of all sizes.
func drawnNumber(source *rand.Rand) uint64 { return source.Uint64() >> source.Intn(65) }

// P13.1: drawn names, items, numbers and texts: each call's answer as in the document's words, and the keys' own way back.
func TestDrawnNamesAndKeys(t *testing.T) {
	source := rand.New(rand.NewSource(1))
	right := 0
	for range 60000 {
		bucket, item, id := drawnBucket(source), drawnItem(source), drawnNumber(source)
		if isBucket(bucket) && isItem(item) {
			right++
		}
		holdsNames(t, bucket)
		holdsNames(t, item)
		holdsKeys(t, bucket, item, id)
		holdsPart(t, id, source.Intn(400)-70)
		holdsPart(t, id, int(source.Uint64()))
	}
	if right < 20000 {
		t.Errorf("%d keys alone", right)
	}
}

// P13.1, ReadVersion and ReadUpload: drawn keys with a byte changed, and of any bytes, as in the document's words.
func TestDrawnKeysThatAreNone(t *testing.T) {
	source := rand.New(rand.NewSource(2))
	right, wrong := 0, 0
	for range 20000 {
		bucket, item, id := drawnBucket(source), drawnItem(source), drawnNumber(source)
		key := "vu"[source.Intn(2):][:1] + bucket + "\x00" + item + "\x00" + eight(id)
		if source.Intn(4) > 0 {
			key = changed(source, key)
		}
		if source.Intn(10) == 0 {
			key = drawnText(source, source.Intn(30))
		}
		readsKey(t, key)
		if readOf(key, versionKey, true).ok || readOf(key, uploadKey, false).ok {
			right++
		} else {
			wrong++
		}
	}
	if right < 3000 || wrong < 3000 {
		t.Errorf("%d keys, %d that are none", right, wrong)
	}
}

// P13.1, Under: drawn kinds and texts.
func TestDrawnUnder(t *testing.T) {
	source := rand.New(rand.NewSource(3))
	for range 20000 {
		var parts []string
		for range source.Intn(5) {
			parts = append(parts, drawnItem(source))
		}
		holdsUnder(t, byte(source.Intn(256)), parts...)
	}
}

// besides: texts about s and what is behind it: those that begin with one of both or with a beginning of it, and some others.
func besides(source *rand.Rand, s, behind string) []string {
	var all []string
	for _, text := range []string{s, behind} {
		cut := text[:source.Intn(len(text)+1)]
		all = append(all, text, cut, cut+"\xff\xff\xff\xff", cut+"\x00", text+"\x00", text+drawnText(source, 3), text+strings.Repeat("\xff", 60), changed(source, text))
		if n := len(text); n > 0 && text[n-1] > 0 {
			all = append(all, text[:n-1]+string([]byte{text[n-1] - 1})+strings.Repeat("\xff", 60))
		}
	}
	return append(all, drawnText(source, source.Intn(9)), "", "\xff", strings.Repeat("\xff", 60))
}

// P13.2, Behind: drawn texts, among them such as end in bytes 255, held against others about them.
func TestDrawnBehind(t *testing.T) {
	source := rand.New(rand.NewSource(4))
	for range 20000 {
		s := drawnText(source, source.Intn(20)) + strings.Repeat("\xff", max(0, source.Intn(10)-5))
		holdsBehind(t, s, besides(source, s, name.Behind(s)))
	}
}

// P13.1, Token and Told: drawn texts, their tokens, and these with some signs changed.
func TestDrawnTokens(t *testing.T) {
	source := rand.New(rand.NewSource(5))
	for range 20000 {
		text := drawnText(source, source.Intn(60))
		holdsToken(t, text)
		token := changed(source, tokenOf(text))
		tells(t, token)
		for i := range source.Intn(3) {
			at := source.Intn(len(token) + 1)
			token = token[:at] + string("0123456789abcdef"[source.Intn(16)]) + token[min(at+i, len(token)):]
		}
		tells(t, token)
		tells(t, drawnText(source, source.Intn(20)))
	}
}

// version: of an item of a bucket, by its number; an upload likewise.
type version struct {
	bucket, item string
	id           uint64
}

// drawnVersions: of few buckets and items, whose names begin one another, and few numbers.
func drawnVersions(source *rand.Rand, n int) []version {
	buckets := []string{"abc", "abcd", "abc-d", "abc0", "abcdefghijklmnop", "abcdefghijklmno", "abb", "abd", "0ab", "zab", "a-b", "a--b", "a0b"}
	items := []string{"k", "ke", "key", "k\x01", "k\xff", "k\xff\xff", "j", "j\xff", "l", "\x01", "\x01\x01", "\xff", "\xff\xff", "abc", "vabc", strings.Repeat("k", 39), strings.Repeat("k", 40)}
	numbers := numbers()
	var all []version
	for range n {
		all = append(all, version{buckets[source.Intn(len(buckets))], items[source.Intn(len(items))], numbers[source.Intn(len(numbers))]})
	}
	return all
}

// P13.2: keys of versions stand in the order of buckets, then items, then falling numbers; of uploads, of rising ones.
func TestKeysStandInOrder(t *testing.T) {
	source := rand.New(rand.NewSource(6))
	all := drawnVersions(source, 700)
	for _, a := range all {
		for _, b := range all {
			names := cmp.Or(cmp.Compare(a.bucket, b.bucket), cmp.Compare(a.item, b.item))
			want := cmp.Or(names, cmp.Compare(b.id, a.id))
			if got := cmp.Compare(name.VersionKey(a.bucket, a.item, a.id), name.VersionKey(b.bucket, b.item, b.id)); got != want {
				t.Fatalf("versions %+v, %+v: %d, not %d", a, b, got, want)
			}
			want = cmp.Or(names, cmp.Compare(a.id, b.id))
			if got := cmp.Compare(name.UploadKey(a.bucket, a.item, a.id), name.UploadKey(b.bucket, b.item, b.id)); got != want {
				t.Fatalf("uploads %+v, %+v: %d, not %d", a, b, got, want)
			}
			if got := cmp.Compare(name.BucketKey(a.bucket), name.BucketKey(b.bucket)); got != cmp.Compare(a.bucket, b.bucket) {
				t.Fatalf("buckets %q, %q: %d", a.bucket, b.bucket, got)
			}
		}
	}
}

// P13.2: drawn names of all kinds stand so, too.
func TestDrawnKeysStandInOrder(t *testing.T) {
	source := rand.New(rand.NewSource(7))
	var all []version
	for len(all) < 500 {
		one := version{drawnBucket(source), drawnItem(source), drawnNumber(source)}
		if isBucket(one.bucket) && isItem(one.item) {
			all = append(all, one, version{one.bucket, one.item[:1+source.Intn(len(one.item))], drawnNumber(source)})
		}
	}
	for _, a := range all {
		for _, b := range all {
			want := cmp.Or(cmp.Compare(a.bucket, b.bucket), cmp.Compare(a.item, b.item), cmp.Compare(b.id, a.id))
			if got := cmp.Compare(name.VersionKey(a.bucket, a.item, a.id), name.VersionKey(b.bucket, b.item, b.id)); got != want {
				t.Fatalf("%+v, %+v: %d, not %d", a, b, got, want)
			}
		}
	}
}

// P13.1: keys of parts stand in the order of uploads, then parts.
func TestKeysOfPartsStandInOrder(t *testing.T) {
	type part struct {
		upload uint64
		n      int
	}
	var all []part
	for _, upload := range numbers() {
		for _, n := range []int{0, 1, 15, 16, 127, 128, 255} {
			all = append(all, part{upload, n})
		}
	}
	for _, a := range all {
		for _, b := range all {
			want := cmp.Or(cmp.Compare(a.upload, b.upload), cmp.Compare(a.n, b.n))
			if got := cmp.Compare(name.PartKey(a.upload, a.n), name.PartKey(b.upload, b.n)); got != want {
				t.Fatalf("%v, %v: %d, not %d", a, b, got, want)
			}
		}
	}
}

// everyKey: keys of all four kinds, rising, as a map has them, each once.
func everyKey(all []version) []string {
	var keys []string
	for _, one := range all {
		keys = append(keys, name.BucketKey(one.bucket), name.VersionKey(one.bucket, one.item, one.id), name.UploadKey(one.bucket, one.item, one.id), name.PartKey(one.id, int(one.id%256)))
	}
	slices.Sort(keys)
	return slices.Compact(keys)
}

// from: those of keys that begin with under, found as a map finds them: from it on, and below what is behind it.
func from(t *testing.T, keys []string, under string) []string {
	t.Helper()
	first, _ := slices.BinarySearch(keys, under)
	last, _ := slices.BinarySearch(keys, name.Behind(under))
	for k, key := range keys {
		if strings.HasPrefix(key, under) != (first <= k && k < last) {
			t.Fatalf("%q: %q stands at %d, not from %d to %d", under, key, k, first, last)
		}
	}
	return keys[first:last]
}

// under: of versions those of a bucket, and of an item, if it isn't "": items in order, of each the greatest number first, each once.
func under(all []version, bucket, item string) []version {
	mine := slices.DeleteFunc(slices.Clone(all), func(v version) bool {
		return v.bucket != bucket || item != "" && v.item != item
	})
	slices.SortFunc(mine, func(a, b version) int {
		return cmp.Or(cmp.Compare(a.item, b.item), cmp.Compare(b.id, a.id))
	})
	return slices.Compact(mine)
}

// rising: the same, of each item the least number first.
func rising(all []version) []version {
	slices.SortFunc(all, func(a, b version) int {
		return cmp.Or(cmp.Compare(a.item, b.item), cmp.Compare(a.id, b.id))
	})
	return all
}

// things: what keys tell, by ReadVersion or ReadUpload.
func things(t *testing.T, keys []string, read func(string) (string, string, uint64, bool)) []version {
	t.Helper()
	var all []version
	for _, key := range keys {
		bucket, item, id, ok := read(key)
		if !ok {
			t.Fatalf("%q: no such key", key)
		}
		all = append(all, version{bucket, item, id})
	}
	return all
}

// P13.2: what is under one bucket, and under one item, is side by side, in order, and under no other one.
func TestUnderTellsWhatIsUnderOneAlone(t *testing.T) {
	source := rand.New(rand.NewSource(8))
	all := drawnVersions(source, 900)
	keys := everyKey(all)
	for _, one := range all[:300] {
		if got := from(t, keys, name.Under('b', one.bucket)); !slices.Equal(got, []string{bucketKey(one.bucket)}) {
			t.Fatalf("buckets under %q: %q", one.bucket, got)
		}
		for _, parts := range [][]string{{one.bucket, ""}, {one.bucket, one.item}} {
			want, given := under(all, parts[0], parts[1]), parts
			if parts[1] == "" {
				given = parts[:1]
			}
			if got := things(t, from(t, keys, name.Under('v', given...)), name.ReadVersion); !slices.Equal(got, want) {
				t.Fatalf("versions under %q: %+v", given, got)
			}
			if got := things(t, from(t, keys, name.Under('u', given...)), name.ReadUpload); !slices.Equal(got, rising(want)) {
				t.Fatalf("uploads under %q: %+v", given, got)
			}
		}
	}
}

// P0, R7: all calls end at all arguments, none panics, and asked again each answers the same.
func TestCallsEndAtAllArguments(t *testing.T) {
	source := rand.New(rand.NewSource(9))
	for range 20000 {
		a, b, id := drawnText(source, source.Intn(50)), drawnText(source, source.Intn(50)), drawnNumber(source)
		part, kind := int(source.Uint64()>>source.Intn(64)), byte(source.Intn(256))
		if first, again := answers(a, b, id, part, kind), answers(a, b, id, part, kind); !slices.Equal(first, again) {
			t.Fatalf("%q, %q: %q, %q", a, b, first, again)
		}
		holdsNames(t, a)
		holdsKeys(t, a, b, id)
		holdsPart(t, id, part)
		holdsUnder(t, kind, a, b)
		holdsBehind(t, a, []string{b})
		tells(t, a)
	}
}

// answers: what the calls that answer texts do.
func answers(a, b string, id uint64, part int, kind byte) []string {
	text, _ := name.Told(a)
	bucket, item, _, _ := name.ReadVersion(a)
	other, another, _, _ := name.ReadUpload(a)
	return []string{
		name.BucketKey(a), name.VersionKey(a, b, id), name.UploadKey(a, b, id), name.PartKey(id, part), name.Under(kind, a, b), name.Behind(a), name.Token(a), text, bucket, item, other, another,
	}
}

// P0: long texts, and many.
func TestCallsEndAtLongTexts(t *testing.T) {
	for _, one := range []string{"a", "\x00", "\xff", "v", "u", "-", "0"} {
		long := strings.Repeat(one, 1<<21)
		holdsNames(t, long)
		holdsKeys(t, long, "key", 1)
		holdsKeys(t, "abc", long, 1)
		refused(t, long)
		refused(t, "vabc\x00"+long+"\x0012345678")
		holdsUnder(t, 'v', long, long)
		holdsBehind(t, long, []string{"", "a", "b", "\xff", long})
		holdsToken(t, long)
		tells(t, long)
	}
	parts := make([]string, 1<<18)
	if got := name.Under('v', parts...); got != "v"+strings.Repeat("\x00", len(parts)) {
		t.Errorf("%d bytes", len(got))
	}
	parts[len(parts)-1] = "\x00"
	if got := name.Under('v', parts...); got != "" {
		t.Errorf("%d bytes", len(got))
	}
}
