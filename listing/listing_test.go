package listing_test

import (
	"fmt"
	"math"
	"strings"
	"testing"
	"unsafe"

	"cooperage/api"
	"cooperage/bucket"
	"cooperage/chunks"
	"cooperage/listing"
	"cooperage/name"
	"cooperage/room"
	"cooperage/tree"
	"cooperage/tx"
	"cooperage/version"
	"cooperage/wal"
)

// long: the longest item's key there is.
var long = strings.Repeat("\xff", 40)

// someBuckets: abc is Off, abcd is Kept, abb is Suspended; of these names one begins another one, or is just less.
func someBuckets() []string {
	return []string{"abc", "abcd", "abb"}
}

// noBuckets: names that no bucket has.
func noBuckets() []string {
	return []string{"", "ab", "-abc", "abc-", "Abc", "abc\x00", "abc\xff", strings.Repeat("a", 17), strings.Repeat("a", 1<<17)}
}

// noTexts: what is neither a prefix nor a delimiter: too long, or with a byte 0.
func noTexts() []string {
	return []string{"\x00", "a\x00", "\x00a", "a\x00a", long + "\xff", long[1:] + "\x00", strings.Repeat("a", 41), strings.Repeat("a", 256+1), strings.Repeat("a", 1<<17)}
}

// noLimits: too little, too many.
func noLimits() []int {
	return []int{math.MinInt, -1 << 32, -100, -1, 0, 101, 256 + 1, 1<<32 + 1, math.MaxInt}
}

// noTokens: what is no token of k or p and 1 to 40 bytes, none of them 0.
func noTokens() []string {
	list := []string{"k", "p", "ka", "pa/", "zz", "\x00", "0", "00000000", "000000006b61", strings.Repeat("0", 1<<17)}
	for _, text := range []string{"", "k", "p", "a", "a/", "Ka", "Pa", "qa", "\x00a", "va", "akpa", "k\x00", "ka\x00", "k\x00a", "pa\x00", "p\x00", "k" + long + "\xff", "p" + long + "\xff", "k" + strings.Repeat("a", 256+1), "k" + long[1:] + "\x00"} {
		list = append(list, tokenOf(text))
	}
	right := tokenOf("kab")
	list = append(list, strings.ToUpper(right), right[1:], right[2:], right[:len(right)-1], right[:len(right)-2], right+"0", right+"00", right+" ", " "+right, right+right, tokenOf(right))
	for at := range right {
		other := "0"
		if right[at] == '0' {
			other = "1"
		}
		list = append(list, right[:at]+other+right[at+1:])
	}
	return list
}

// tokens: "", and some of k and p, of the shortest and the longest texts, and of any bytes.
func tokens() []string {
	list := []string{""}
	for _, text := range []string{"a", "k", "p", "a/", "\x01", "\xff", "\x80", "é", strings.Repeat("a", 40), long} {
		list = append(list, tokenOf("k"+text), tokenOf("p"+text))
	}
	return list
}

// P16.1: the example: items a/1, a/2, b; delimiter /: Prefixes a/, Entries b; and, step by step, all that a listing has.
func TestStepByStep(t *testing.T) {
	b := laid(t, 60)
	b.put("abc", "a/1", 7, 21)
	b.put("abc", "b", 8, 22)
	b.put("abc", "a/2", 9, 23)
	got, e := listing.List(b.room, "abc", "", "/", 100, "")
	same(t, got, e, api.List{Entries: []api.Entry{{Key: "b", ID: 2, Size: 8, Born: 22}}, Prefixes: []string{"a/"}}, api.OK)
	got, e = listing.List(b.room, "abc", "", "", 100, "")
	all := []api.Entry{{Key: "a/1", ID: 1, Size: 7, Born: 21}, {Key: "a/2", ID: 3, Size: 9, Born: 23}, {Key: "b", ID: 2, Size: 8, Born: 22}}
	same(t, got, e, api.List{Entries: all}, api.OK)
	got, e = listing.List(b.room, "abc", "", "", 2, "")
	same(t, got, e, api.List{Entries: all[:2], More: true, Token: name.Token("ka/2")}, api.OK)
	got, e = listing.List(b.room, "abc", "", "", 2, got.Token)
	same(t, got, e, api.List{Entries: all[2:]}, api.OK)
	got, e = listing.List(b.room, "abc", "", "/", 1, "")
	same(t, got, e, api.List{Prefixes: []string{"a/"}, More: true, Token: name.Token("pa/")}, api.OK)
	got, e = listing.List(b.room, "abc", "", "/", 1, got.Token)
	same(t, got, e, api.List{Entries: all[2:]}, api.OK)
	got, e = listing.List(b.room, "abcd", "", "/", 1, "")
	same(t, got, e, api.List{}, api.OK)
}

// P16.1, Entries: of each item its latest version's number, bytes and time, whatever it had before, in buckets of each State; also when what was the latest one is taken away.
func TestLatestVersions(t *testing.T) {
	for state := range 3 {
		b := laid(t, 200)
		b.set("abc", state)
		for k, last := range []uint64{0, 9, 254, 1<<32 - 2, 1<<63 - 2, math.MaxUint64 - 9} {
			says(t, b.room.SetRoot(5, last), api.OK)
			b.want.last = last
			b.put("abc", "a", 10+k, uint64(20+k))
			b.put("abc", "b", 30+k, math.MaxUint64-uint64(k))
			b.put("abc", "a", 200+k, uint64(k))
			b.told1("", "", "a b")
			x := b.list("abc", "", "", 1, "")
			if got, want := x.Entries[0], (api.Entry{Key: "a", ID: last + 3, Size: 200 + k, Born: uint64(k)}); got != want {
				t.Fatalf("%v, not %v", got, want)
			}
		}
		for len(b.want.items["abc"]["a"]) > 0 {
			b.remove("abc", "a", (len(b.want.items["abc"]["a"])-1)%2)
			b.list("abc", "", "", 9, "")
		}
		b.told1("", "", "b")
	}
}

// P16.1: items that are gone, or never were, are neither told nor let a group be told; in buckets of each State, by Delete and by Remove; and they are there again when a marker is taken away, or they are put again.
func TestGone(t *testing.T) {
	for _, s := range someBuckets() {
		b := laid(t, 200)
		told := func(plain, grouped string) {
			t.Helper()
			b.told(s, "", "", 100, "", plain)
			b.told(s, "", "/", 100, "", grouped)
			b.list(s, "a/", "/", 100, "")
			b.list(s, "", "1", 1, "")
		}
		told("", "")
		b.putAll(s, "a/1", "a/2", "a/3", "b/1", "c")
		told("a/1 a/2 a/3 b/1 c", "c | a/ b/")
		b.delete(s, "a/1", 9)
		told("a/2 a/3 b/1 c", "c | a/ b/")
		b.delete(s, "a/3", 9)
		told("a/2 b/1 c", "c | a/ b/")
		b.delete(s, "a/2", 9)
		told("b/1 c", "c | b/")
		b.delete(s, "c", 9)
		told("b/1", "| b/")
		b.delete(s, "never/", 9)
		told("b/1", "| b/")
		b.putAll(s, "a/2")
		told("a/2 b/1", "| a/ b/")
		b.remove(s, "a/2", 0)
		told("b/1", "| b/")
		b.remove(s, "b/1", 0)
		told("", "")
		if s == "abcd" {
			b.remove(s, "a/2", 0)
			b.remove(s, "a/1", 0)
			told("a/1 a/2", "| a/")
		}
	}
}

// P16.1: what was gone in a bucket that keeps versions, or did: the plain marker hides what stands below it, and a numbered one what is plain; when they go, those below are told.
func TestGoneBetweenStates(t *testing.T) {
	b := laid(t, 100)
	told := func(there bool) {
		t.Helper()
		if there {
			b.told1("", "", "a/k")
			b.told1("", "/", "| a/")
		} else {
			b.told1("", "", "")
			b.told1("", "/", "")
		}
	}
	step := func(state int, put, there bool) {
		t.Helper()
		b.set("abc", state)
		if put {
			b.put("abc", "a/k", 0, 1)
		} else {
			b.delete("abc", "a/k", 1)
		}
		told(there)
	}
	step(0, true, true)
	step(1, false, false)
	step(1, true, true)
	step(0, false, true)
	step(2, false, false)
	step(0, false, true)
	step(1, false, false)
	step(2, true, true)
	step(0, false, false)
	b.remove("abc", "a/k", 0)
	told(true)
	b.remove("abc", "a/k", 0)
	told(false)
}

// P16.1, delimiters: of one byte, and of several; at a key's end and beginning, twice in it, and nowhere.
func TestDelimiters(t *testing.T) {
	b := laid(t, 100)
	b.putAll("abc", "a", "a/", "a/1", "a/2", "a/2/x", "a//", "a//x", "a0", "b", "b/", "/", "//", "/a", "c--d", "c-d", "c--")
	b.told1("", "", "/ // /a a a/ a// a//x a/1 a/2 a/2/x a0 b b/ c-- c--d c-d")
	b.told1("", "/", "a a0 b c-- c--d c-d | / a/ b/")
	b.told1("", "//", "/ /a a a/ a/1 a/2 a/2/x a0 b b/ c-- c--d c-d | // a//")
	b.told1("", "--", "/ // /a a a/ a// a//x a/1 a/2 a/2/x a0 b b/ c-d | c--")
	b.told1("", "-", "/ // /a a a/ a// a//x a/1 a/2 a/2/x a0 b b/ | c-")
	b.told1("", "c--d", "/ // /a a a/ a// a//x a/1 a/2 a/2/x a0 b b/ c-- c-d | c--d")
	b.told1("", "/2/x", "/ // /a a a/ a// a//x a/1 a/2 a0 b b/ c-- c--d c-d | a/2/x")
	b.told1("", "a", "/ // b b/ c-- c--d c-d | /a a")
	b.told1("", "nowhere", "/ // /a a a/ a// a//x a/1 a/2 a/2/x a0 b b/ c-- c--d c-d")
	b.told1("", strings.Repeat("/", 40), "/ // /a a a/ a// a//x a/1 a/2 a/2/x a0 b b/ c-- c--d c-d")
	b.told1("a", "/", "a a0 | a/")
	b.told1("a/", "/", "a/ a/1 a/2 | a// a/2/")
	b.told1("a/2", "/", "a/2 | a/2/")
	b.told1("a/2/", "/", "a/2/x")
	b.told1("/", "/", "/ /a | //")
	b.told1("b/", "/", "b/")
	b.told1("c", "-", "| c-")
	b.told1("c-", "-", "c-d | c--")
	b.told1("c--", "-", "c-- c--d")
	b.told1("c--d", "c--d", "c--d")
}

// P16.1, delimiters that overlap themselves: the first place counts; within the prefix, or across its end, there is none.
func TestOverlaps(t *testing.T) {
	b := laid(t, 100)
	b.putAll("abc", "a", "aa", "aaa", "aaaa", "aaaaa", "aaab", "aab", "aabaa", "aba", "ababa", "abababa", "ba", "baa", "bab")
	b.told1("", "aa", "a aba ababa abababa ba bab | aa baa")
	b.told1("a", "aa", "a aa aab aba ababa abababa | aaa aabaa")
	b.told1("aa", "aa", "aa aaa aaab aab | aaaa aabaa")
	b.told1("aaa", "aa", "aaa aaaa aaab | aaaaa")
	b.told1("aaaa", "aa", "aaaa aaaaa")
	b.told1("", "aaa", "a aa aab aabaa aba ababa abababa ba baa bab | aaa")
	b.told1("a", "aaa", "a aa aaa aaab aab aabaa aba ababa abababa | aaaa")
	b.told1("", "aba", "a aa aaa aaaa aaaaa aaab aab ba baa bab | aaba aba")
	b.told1("a", "aba", "a aa aaa aaaa aaaaa aaab aab aba | aaba ababa")
	b.told1("ab", "aba", "aba | ababa")
	b.told1("aba", "aba", "aba ababa | abababa")
	b.told1("abab", "aba", "ababa | abababa")
	b.told1("ababa", "aba", "ababa abababa")
	b.told1("", "ab", "a aa aaa aaaa aaaaa ba baa | aaab aab ab bab")
	b.told1("b", "ab", "ba baa | bab")
	b.told1("ba", "ab", "ba baa bab")
}

// P16.1, a delimiter right behind the prefix, across its end, within it, and behind another byte.
func TestDelimiterAtPrefixEnd(t *testing.T) {
	b := laid(t, 60)
	b.putAll("abc", "x/yz/yz", "x/yz", "x/yyz")
	b.told1("x", "/y", "| x/y")
	b.told1("x/", "/y", "x/yyz x/yz | x/yz/y")
	b.told1("x/y", "/y", "x/yyz x/yz | x/yz/y")
	b.told1("x/yz", "/y", "x/yz | x/yz/y")
	b.told1("x/yz/", "/y", "x/yz/yz")
	b.told1("x/yz/", "z", "| x/yz/yz")
	b.told1("x/yz/y", "z", "| x/yz/yz")
	b.told1("x/yz/yz", "z", "x/yz/yz")
	b.told1("x/y", "y", "x/yz | x/yy x/yz/y")
	b.told1("x/y", "z", "| x/yyz x/yz")
	b.told1("x/yy", "yz", "x/yyz")
}

// P16.1, prefixes: "", one that is no key's beginning, one that is a whole key, the longest ones; another bucket's items have none of them.
func TestPrefixes(t *testing.T) {
	b := laid(t, 100)
	b.putAll("abc", "k", "ka", "kab", "kb", "l", "j\xff", "j", "\xff", long, long[1:]+"a", strings.Repeat("k", 40))
	for _, s := range []string{"abcd", "abb"} {
		b.putAll(s, "other", "k"+s)
	}
	b.told1("", "", "j j\xff k ka kab kb "+strings.Repeat("k", 40)+" l \xff "+long[1:]+"a "+long)
	b.told1("k", "", "k ka kab kb "+strings.Repeat("k", 40))
	b.told1("ka", "", "ka kab")
	b.told1("kab", "", "kab")
	b.told1("kabc", "", "")
	b.told1("kac", "", "")
	b.told1("kb", "", "kb")
	b.told1("j", "", "j j\xff")
	b.told1("j\xff", "", "j\xff")
	b.told1("\x01", "", "")
	b.told1("m", "", "")
	b.told1("other", "", "")
	b.told1("\xff", "", "\xff "+long[1:]+"a "+long)
	b.told1("\xff\xff", "", long[1:]+"a "+long)
	b.told1(long, "", long)
	b.told1(long[1:], "", long[1:]+"a "+long)
	b.told1(long[1:]+"b", "", "")
	b.told1(strings.Repeat("k", 40), "", strings.Repeat("k", 40))
	b.told1(strings.Repeat("k", 39)+"j", "", "")
	b.told("abcd", "k", "", 9, "", "kabcd")
	b.told("abb", "", "k", 9, "", "other | k")
}

// P16.1, groups: that are a key themselves, of the longest keys, one byte or 40 of them; each is told once, where its first item stands, though another group, or an item, is just above or below.
func TestGroups(t *testing.T) {
	b := laid(t, 100)
	b.putAll("abc", "a", "a/", "a/1", "a0", "b.", "b/", "b/1", "b/2", "b0", "/", long, long[1:]+"a", strings.Repeat("a", 39)+"/")
	b.told1("", "/", "a a0 b. b0 "+long[1:]+"a "+long+" | / a/ "+strings.Repeat("a", 39)+"/ b/")
	b.told1("a", "", "a a/ a/1 a0 "+strings.Repeat("a", 39)+"/")
	b.told1("a", "/", "a a0 | a/ "+strings.Repeat("a", 39)+"/")
	b.told1("", long, "/ a a/ a/1 a0 "+strings.Repeat("a", 39)+"/ b. b/ b/1 b/2 b0 "+long[1:]+"a | "+long)
	b.told1("b", "b", "b. b/ b/1 b/2 b0")
	b.told1("", "\xff", "/ a a/ a/1 a0 "+strings.Repeat("a", 39)+"/ b. b/ b/1 b/2 b0 | \xff")
	b.told1("\xff", "\xff", "| \xff\xff")
	b.told1(long[1:], "\xff", long[1:]+"a | "+long)
	b.told1(long[1:], "a", long+" | "+long[1:]+"a")
	b.told("abc", "", "/", 1, "", "| / > p/")
	b.told("abc", "", "/", 2, "", "a | / > ka")
	b.told("abc", "", "/", 3, "", "a | / a/ > pa/")
	b.told("abc", "", "/", 4, "", "a a0 | / a/ > ka0")
	b.told("abc", "", "/", 5, "", "a a0 | / a/ "+strings.Repeat("a", 39)+"/ > p"+strings.Repeat("a", 39)+"/")
	b.told("abc", "", "/", 3, tokenOf("p"+strings.Repeat("a", 39)+"/"), "b. b0 | b/ > kb0")
	b.told("abc", "", "/", 1, tokenOf("kb0"), long[1:]+"a > k"+long[1:]+"a")
	b.told("abc", "", "/", 1, tokenOf("k"+long[1:]+"a"), long)
	b.told("abc", long[1:], "a", 1, "", "| "+long[1:]+"a > p"+long[1:]+"a")
	b.told("abc", long[1:], "a", 1, tokenOf("p"+long[1:]+"a"), long)
}

// P16.1: keys with bytes above 127 stand in order byte by byte, whatever runes they are; prefixes and delimiters may be a rune's half.
func TestHighBytes(t *testing.T) {
	b := laid(t, 100)
	b.putAll("abc", "é/1", "é/2", "è", "ê", "e", "z", "\x7f", "\x80", "\xc3", "\xff", "\xff\x01", "日本", "日曜", "😀")
	b.told1("", "", "e z \x7f \x80 \xc3 è é/1 é/2 ê 日曜 日本 😀 \xff \xff\x01")
	b.told1("", "/", "e z \x7f \x80 \xc3 è ê 日曜 日本 😀 \xff \xff\x01 | é/")
	b.told1("\xc3", "", "\xc3 è é/1 é/2 ê")
	b.told1("", "\xc3", "e z \x7f \x80 日曜 日本 😀 \xff \xff\x01 | \xc3")
	b.told1("", "é", "e z \x7f \x80 \xc3 è ê 日曜 日本 😀 \xff \xff\x01 | é")
	b.told1("\xc3", "\xa9", "\xc3 è ê | é")
	b.told1("", "\xa9/", "e z \x7f \x80 \xc3 è ê 日曜 日本 😀 \xff \xff\x01 | é/")
	b.told1("日", "", "日曜 日本")
	b.told1("", "日", "e z \x7f \x80 \xc3 è é/1 é/2 ê 😀 \xff \xff\x01 | 日")
	b.told1("", "\xff", "e z \x7f \x80 \xc3 è é/1 é/2 ê 日曜 日本 😀 | \xff")
	b.told1("\xff", "\x01", "\xff | \xff\x01")
	b.told("abc", "", "", 100, tokenOf("k\x7f"), "\x80 \xc3 è é/1 é/2 ê 日曜 日本 😀 \xff \xff\x01")
	b.told("abc", "", "", 100, tokenOf("p\xc3"), "日曜 日本 😀 \xff \xff\x01")
	b.told("abc", "", "", 100, tokenOf("k\xff"), "\xff\x01")
	b.told("abc", "", "", 100, tokenOf("p\xff"), "")
	b.told("abc", "", "", 100, tokenOf("p\xfe"), "\xff \xff\x01")
}

// numbered: n keys, rising; or of so many groups some for each.
func numbered(n int, grouped bool) []string {
	var keys []string
	for k := range n {
		key := fmt.Sprintf("%03d", k)
		if grouped {
			keys = append(keys, key+"/", key+"/x")
		} else {
			keys = append(keys, key)
		}
	}
	return keys
}

// P16.1, limits: of 1, 2, 99 and 100: More and Token, where just as many are told as there are, one less and one more; of items, of groups, and of both; gone items are none of them.
func TestLimits(t *testing.T) {
	for _, limit := range []int{1, 2, 99, 100} {
		for _, n := range []int{limit - 1, limit, limit + 1} {
			b := laid(t, 900)
			b.putAll("abc", numbered(n, false)...)
			b.putAll("abcd", numbered(n, true)...)
			b.putAll("abcd", "gone", "gone/", "gone/x", "0")
			for _, item := range []string{"gone", "gone/", "gone/x", "0", "1", "~"} {
				b.delete("abcd", item, 1)
			}
			for k, key := range numbered(n, true) {
				if k%4 > 1 {
					key = key[:3]
				}
				b.putAll("abb", key)
			}
			for _, s := range someBuckets() {
				x := b.list(s, "", "/", limit, "")
				if told := len(x.Entries) + len(x.Prefixes); told != min(n, limit) || x.More != (n > limit) || x.More != (x.Token != "") {
					t.Fatalf("%s: %d told of %d, limit %d: %v, %q", s, told, n, limit, x.More, x.Token)
				}
				if x.More {
					rest := b.list(s, "", "/", limit, x.Token)
					if len(rest.Entries)+len(rest.Prefixes) != 1 || rest.More || rest.Token != "" {
						t.Fatalf("%s: %q", s, shown(rest))
					}
				}
			}
		}
	}
}

// P16.1, BadAsk: limits below 1 and above 100, prefixes and delimiters of more than 40 bytes or with a byte 0; of empty buckets, too. Of 40 bytes they are right.
func TestBadAsk(t *testing.T) {
	b := laid(t, 60)
	b.putAll("abc", "a", "b/1", long)
	for _, s := range someBuckets() {
		for _, limit := range noLimits() {
			_, e := listing.List(b.room, s, "", "", limit, "")
			says(t, e, api.BadAsk)
			b.list(s, "a", "/", limit, tokenOf("ka"))
		}
		for _, text := range noTexts() {
			for _, asked := range [][2]string{{text, ""}, {"", text}, {text, text}, {"a", text}, {text, "a"}} {
				_, e := listing.List(b.room, s, asked[0], asked[1], 9, "")
				says(t, e, api.BadAsk)
				b.list(s, asked[0], asked[1], 9, tokenOf("ka"))
			}
		}
		for _, text := range []string{"", long, long[1:], strings.Repeat("a", 40), "\x01"} {
			for _, other := range []string{"", long, "/"} {
				_, e := listing.List(b.room, s, text, other, 9, "")
				says(t, e, api.OK)
				b.list(s, text, other, 100, "")
				b.list(s, other, text, 1, "")
			}
		}
	}
}

// P16.1, BadToken: each text that is no token, or one of another text; also where a token would skip nothing, or all.
func TestBadToken(t *testing.T) {
	b := laid(t, 60)
	b.putAll("abc", "a", "ab", "b/1", long)
	for _, s := range someBuckets() {
		for _, token := range noTokens() {
			_, e := listing.List(b.room, s, "", "", 9, token)
			says(t, e, api.BadToken)
			b.list(s, "a", "/", 1, token)
		}
		for _, token := range tokens() {
			_, e := listing.List(b.room, s, "", "", 9, token)
			says(t, e, api.OK)
			b.list(s, "a", "/", 1, token)
		}
	}
}

// P16.1, tokens of k: of items that there are, that there were and that there never were, above and below all; their groups are told still, if an item of theirs is above.
func TestTokensOfItems(t *testing.T) {
	b := laid(t, 100)
	b.putAll("abc", "a", "a/1", "a/2", "a/3", "a0", "b/1", "c", "were", "a/were")
	b.delete("abc", "were", 1)
	b.delete("abc", "a/were", 1)
	behind := func(item, plain, grouped string) {
		t.Helper()
		b.told("abc", "", "", 100, tokenOf("k"+item), plain)
		b.told("abc", "", "/", 100, tokenOf("k"+item), grouped)
	}
	behind("\x01", "a a/1 a/2 a/3 a0 b/1 c", "a a0 c | a/ b/")
	behind("a", "a/1 a/2 a/3 a0 b/1 c", "a0 c | a/ b/")
	behind("a\x01", "a/1 a/2 a/3 a0 b/1 c", "a0 c | a/ b/")
	behind("a/", "a/1 a/2 a/3 a0 b/1 c", "a0 c | a/ b/")
	behind("a/1", "a/2 a/3 a0 b/1 c", "a0 c | a/ b/")
	behind("a/10", "a/2 a/3 a0 b/1 c", "a0 c | a/ b/")
	behind("a/2", "a/3 a0 b/1 c", "a0 c | a/ b/")
	behind("a/3", "a0 b/1 c", "a0 c | b/")
	behind("a/3never", "a0 b/1 c", "a0 c | b/")
	behind("a/were", "a0 b/1 c", "a0 c | b/")
	behind("a/\xff", "a0 b/1 c", "a0 c | b/")
	behind("a0", "b/1 c", "c | b/")
	behind("b", "b/1 c", "c | b/")
	behind("b/", "b/1 c", "c | b/")
	behind("b/1", "c", "c")
	behind("c", "", "")
	behind("were", "", "")
	behind("z", "", "")
	behind(long, "", "")
	behind(strings.Repeat("a", 40), "b/1 c", "c | b/")
	behind(strings.Repeat("\x01", 40), "a a/1 a/2 a/3 a0 b/1 c", "a a0 c | a/ b/")
}

// P16.1, tokens of p: of groups that there are, that there were and that there never were: what begins with them is skipped, and all below.
func TestTokensOfGroups(t *testing.T) {
	b := laid(t, 100)
	b.putAll("abc", "a", "a/1", "a/2", "a/2/x", "a0", "b/1", "c", "w/1")
	b.delete("abc", "w/1", 1)
	behind := func(group, plain, grouped string) {
		t.Helper()
		b.told("abc", "", "", 100, tokenOf("p"+group), plain)
		b.told("abc", "", "/", 100, tokenOf("p"+group), grouped)
	}
	behind("\x01", "a a/1 a/2 a/2/x a0 b/1 c", "a a0 c | a/ b/")
	behind("Z\xff", "a a/1 a/2 a/2/x a0 b/1 c", "a a0 c | a/ b/")
	behind("a", "b/1 c", "c | b/")
	behind("a/", "a0 b/1 c", "a0 c | b/")
	behind("a/1", "a/2 a/2/x a0 b/1 c", "a0 c | a/ b/")
	behind("a/2", "a0 b/1 c", "a0 c | b/")
	behind("a/2/", "a0 b/1 c", "a0 c | b/")
	behind("a/2/a", "a/2/x a0 b/1 c", "a0 c | a/ b/")
	behind("a/3/", "a0 b/1 c", "a0 c | b/")
	behind("a0", "b/1 c", "c | b/")
	behind("b", "c", "c")
	behind("b/", "c", "c")
	behind("b/0", "b/1 c", "c | b/")
	behind("b/1", "c", "c")
	behind("bb", "c", "c")
	behind("c", "", "")
	behind("w/", "", "")
	behind("\xff", "", "")
	behind(long, "", "")
	behind(strings.Repeat("\x01", 40), "a a/1 a/2 a/2/x a0 b/1 c", "a a0 c | a/ b/")
}

// P16.1: a token is of no prefix and no delimiter: the same one goes on in a listing with others, wherever it stands.
func TestTokensOfOtherListings(t *testing.T) {
	b := laid(t, 100)
	b.putAll("abc", "a/1", "a/2", "a/b/1", "a/b/2", "b", "b/1", "c/1")
	behind := func(prefix, delim, text, want string) {
		t.Helper()
		b.told("abc", prefix, delim, 100, tokenOf(text), want)
	}
	for _, below := range []string{"ka", "pA", "k\x01", "ka/0", "pa/0/", "ka/"} {
		behind("a/", "/", below, "a/1 a/2 | a/b/")
		behind("b", "/", below, "b | b/")
		behind("c/", "", below, "c/1")
		behind("x", "", below, "")
	}
	for _, above := range []string{"kc", "pb", "pb/", "kb/1", "pc", "kc/1", "k\xff"} {
		behind("a/", "/", above, "")
		behind("a/b/", "", above, "")
		behind("b", "/", above, "")
	}
	behind("a/", "/", "pa/", "")
	behind("a/", "/", "pa", "")
	behind("a/b/", "/", "pa/b/", "")
	behind("a/b/", "", "pa/b", "")
	behind("a/b/", "/", "ka/b/1", "a/b/2")
	behind("a/", "/", "ka/b/1", "| a/b/")
	behind("a/", "/", "ka/b/2", "")
	behind("a/", "b", "ka/b/1", "| a/b")
	behind("a", "/", "ka/b/1", "| a/")
	behind("", "b", "ka/b/1", "c/1 | a/b b")
	behind("", "b", "pa/b", "c/1 | b")
	behind("", "/", "pa/b", "b | b/ c/")
	behind("", "1", "kb", "| b/1 c/1")
	behind("b", "", "pb", "")
	behind("b", "", "pb/", "")
	behind("b", "", "kb", "b/1")
	behind("c", "/", "pb/", "| c/")
}

// R1, P16.1: which error comes first where several would fit: ErrDown, BadName, NoBucket, BadAsk, BadToken.
func TestWhichErrorComesFirst(t *testing.T) {
	b := laid(t, 60)
	b.putAll("abc", "a", "b/1")
	asks := func(s string, badAsk, badToken, none api.Errno) {
		t.Helper()
		refused := func(prefix, delim string, limit int, token string, want api.Errno) {
			t.Helper()
			was := b.now()
			got, e := listing.List(b.room, s, prefix, delim, limit, token)
			if e != want || e != api.OK && (len(got.Entries)+len(got.Prefixes) > 0 || got.More || got.Token != "") {
				t.Fatalf("%q: %d, not %d; %q is told", s, e, want, shown(got))
			}
			b.unchanged(was)
		}
		for _, token := range []string{"", "zz", tokenOf("ka")} {
			refused("\x00", "", 1, token, badAsk)
			refused("", "\x00", 1, token, badAsk)
			refused("", "", 0, token, badAsk)
			refused("", "", 101, token, badAsk)
			refused(long+"a", long+"a", -1, token, badAsk)
		}
		refused("", "", 1, "zz", badToken)
		refused("a", "/", 100, tokenOf("k"), badToken)
		refused("", "", 1, "", none)
		refused("", "", 1, tokenOf("ka"), none)
	}
	asks("abc", api.BadAsk, api.BadToken, api.OK)
	asks("abcd", api.BadAsk, api.BadToken, api.OK)
	asks("none", api.NoBucket, api.NoBucket, api.NoBucket)
	for _, s := range noBuckets() {
		asks(s, api.BadName, api.BadName, api.BadName)
	}
	says(t, bucket.Drop(b.room, "abcd"), api.OK)
	asks("abcd", api.NoBucket, api.NoBucket, api.NoBucket)
	b.bringDown()
	for _, s := range append(noBuckets(), "abc", "abcd", "none") {
		asks(s, api.ErrDown, api.ErrDown, api.ErrDown)
	}
}

// P16.1, Right: what List answers of a bucket that is there, of all that is asked, right or not.
func TestRight(t *testing.T) {
	b := laid(t, 60)
	b.putAll("abc", "a", "a/1", "b")
	texts := append(noTexts(), "", "a", "/", "a/", "\xff", long)
	limits := append(noLimits(), 1, 2, 50, 99, 100)
	for _, s := range []string{"abc", "abcd"} {
		told := map[api.Errno]int{}
		for _, prefix := range texts {
			for _, delim := range texts {
				for k, token := range append(noTokens(), tokens()...) {
					limit := limits[k%len(limits)]
					if k%3 > 0 {
						limit = 1 + k
					}
					_, e := listing.List(b.room, s, prefix, delim, limit, token)
					says(t, listing.Right(prefix, delim, limit, token), e)
					says(t, e, right(prefix, delim, limit, token))
					told[e]++
				}
			}
		}
		if told[api.OK] < 100 || told[api.BadAsk] < 100 || told[api.BadToken] < 100 {
			t.Fatal(told)
		}
	}
}

// downs: that List of a room answers ErrDown, and nothing beside it, whatever is asked; Right has no room.
func downs(t *testing.T, r *room.Room) {
	t.Helper()
	for _, s := range append(noBuckets(), "abc", "abcd", "none") {
		for _, text := range []string{"", "a", "/", "\x00", long + "a"} {
			for _, limit := range []int{0, 1, 100, 101} {
				for _, token := range []string{"", "zz", tokenOf("ka"), tokenOf("pa")} {
					got, e := listing.List(r, s, text, "/", limit, token)
					same(t, got, e, api.List{}, api.ErrDown)
					got, e = listing.List(r, s, "a", text, limit, token)
					same(t, got, e, api.List{}, api.ErrDown)
				}
			}
		}
	}
	says(t, listing.Right("", "/", 1, ""), api.OK)
}

// R2: of a nil room, a zero one, and of rooms of changes and logs that are none: ErrDown.
func TestNil(t *testing.T) {
	for name, r := range map[string]*room.Room{
		"nil":        nil,
		"zero":       {},
		"nil change": room.Of(nil),
		"nil log":    room.Of(tx.Begin(nil)),
		"zero log":   room.Of(tx.Begin(&wal.Log{})),
	} {
		t.Run(name, func(t *testing.T) { downs(t, r) })
	}
}

// P16.1: of a log that is down List answers ErrDown; opened again, what was committed is listed, and nothing else; tokens that were told before go on.
func TestLogThatIsDown(t *testing.T) {
	b := laid(t, 100)
	b.putAll("abc", "a", "a/1", "a/2", "b")
	b.putAll("abcd", "a/1", "c")
	b.delete("abcd", "c", 2)
	b.commit()
	token := b.list("abc", "", "/", 2, "").Token
	b.putAll("abc", "a/3", "c", "d/1")
	b.delete("abc", "b", 3)
	b.putAll("abcd", "c")
	b.told1("", "/", "a c | a/ d/")
	b.told("abcd", "", "/", 9, "", "c | a/")
	b.bringDown()
	downs(t, b.room)
	b.reopen()
	b.told1("", "/", "a b | a/")
	b.told1("", "", "a a/1 a/2 b")
	b.told("abcd", "", "/", 9, "", "| a/")
	b.told("abc", "", "/", 2, token, "b")
	b.putAll("abc", "c")
	b.told("abc", "", "/", 2, token, "b c")
}

// P16.1: what another change of the log has put is listed behind its Commit alone.
func TestTwoRooms(t *testing.T) {
	b := laid(t, 100)
	other := room.Of(tx.Begin(b.log))
	hears := func(want string) {
		t.Helper()
		got, e := listing.List(other, "abc", "", "/", 9, "")
		says(t, e, api.OK)
		if shown(got) != want {
			t.Fatalf("%q, not %q", shown(got), want)
		}
	}
	mark := b.room.Mark()
	b.putAll("abc", "a", "b/1")
	hears("")
	b.room.Back(mark)
	b.want = b.firm.copied()
	b.told1("", "", "")
	b.putAll("abc", "a", "c/1")
	b.commit()
	hears("a | c/")
	b.delete("abc", "c/1", 1)
	hears("a | c/")
	b.told1("", "/", "a")
	b.commit()
	hears("a")
}

// P16.1: what stands under another bucket, uploads and parts of the same items, and what is in other maps is none of a bucket's items.
func TestBesideOthers(t *testing.T) {
	b := laid(t, 100)
	for _, s := range []string{"abcd", "abb"} {
		b.putAll(s, "a", "o/1", "\xff")
	}
	m := tree.At(b.room, 4)
	for _, item := range []string{"a", "u/1", "\x01", long} {
		says(t, m.Put(name.UploadKey("abc", item, 1), "other"), api.OK)
	}
	for _, key := range []string{name.PartKey(1, 1), name.VersionKey("abce", "a", 1), name.BucketKey("abe"), "vab", "vabb\x01", "vabc", "vabc\x01", "w", "u"} {
		says(t, m.Put(key, "other"), api.OK)
	}
	for place := 6; place < 16; place++ {
		says(t, tree.At(b.room, place).Put(name.VersionKey("abc", "a", 1), "v"), api.OK)
	}
	b.told1("", "", "")
	b.told1("", "/", "")
	b.putAll("abc", "k", "k/1")
	b.told1("", "", "k k/1")
	b.told1("", "/", "k | k/")
	b.told("abc", "", "/", 1, tokenOf("kk"), "| k/")
	b.told("abc", "", "/", 1, tokenOf("pk"), "")
}

// spoil: overwrites a text's bytes, so that whoever shares them has another one.
func spoil(s string) {
	for k := range len(s) {
		*(*byte)(unsafe.Add(unsafe.Pointer(unsafe.StringData(s)), k)) = 'y'
	}
}

// given: a text whose bytes nobody else has.
func given(s string) string {
	bytes := []byte(s)
	return unsafe.String(unsafe.SliceData(bytes), len(bytes))
}

// R4: what is asked isn't changed; what List answers is shared with nothing: neither with what was asked, nor with another answer, nor with another part of the same one.
func TestSharesNothing(t *testing.T) {
	b := laid(t, 100)
	for _, s := range someBuckets() {
		b.putAll(s, "a/", "a/1", "a/b", "b", "c", "c/", "d", "e")
	}
	for _, s := range someBuckets() {
		for _, limit := range []int{1, 3, 100} {
			for _, asked := range [][3]string{{"", "", ""}, {"", "/", ""}, {"a/", "/", ""}, {"a/", "b", tokenOf("ka/")}, {"", "/", tokenOf("pa/")}, {"c/", "/", tokenOf("kb")}} {
				bucket, prefix, delim, token := given(s), given(asked[0]), given(asked[1]), given(asked[2])
				got, e := listing.List(b.room, bucket, prefix, delim, limit, token)
				if bucket != s || [3]string{prefix, delim, token} != asked {
					t.Fatal("what was asked has changed")
				}
				for _, text := range []string{bucket, prefix, delim, token} {
					spoil(text)
				}
				want, wantErr := b.want.list(s, asked[0], asked[1], limit, asked[2])
				same(t, got, e, want, wantErr)
				for k := range got.Entries {
					spoil(got.Entries[k].Key)
					got.Entries[k] = want.Entries[k]
					same(t, got, e, want, wantErr)
				}
				for k := range got.Prefixes {
					spoil(got.Prefixes[k])
					got.Prefixes[k] = want.Prefixes[k]
					same(t, got, e, want, wantErr)
				}
				spoil(got.Token)
				clear(got.Entries)
				clear(got.Prefixes)
				b.list(s, asked[0], asked[1], limit, asked[2])
			}
		}
	}
}

// P0, P16.1: where somebody else has put what is no version's key among a bucket's, or what is no version at an item's latest one, it is lost, if the walk comes there; keys just ahead of all and just behind them don't matter, nor does what is skipped.
func TestForeignKeys(t *testing.T) {
	b := laid(t, 60)
	b.putAll("abcd", "a", "b/1", "b/2", "c")
	m := tree.At(b.room, 4)
	held, _, e := m.Get(name.VersionKey("abcd", "a", 1))
	says(t, e, api.OK)
	lost := func(prefix, delim string, limit int, token string) {
		t.Helper()
		mark := b.change.Mark()
		got, e := listing.List(b.room, "abcd", prefix, delim, limit, token)
		same(t, got, e, api.List{}, api.ErrLost)
		if b.change.Mark() != mark {
			t.Fatal("what only looks has changed something")
		}
	}
	for _, key := range []string{"b", "b/2", "b/0\x001234567", "b/0\x00123456789", "b/1x", "b/\x00\x0012345678", "b/" + long + "\x0012345678"} {
		mark := b.room.Mark()
		says(t, m.Put(name.Under('v', "abcd")+key, held), api.OK)
		lost("", "", 100, "")
		lost("b", "", 100, "")
		b.told("abcd", "c", "", 9, "", "c")
		b.told("abcd", "", "", 9, tokenOf("pb"), "c")
		b.room.Back(mark)
	}
	for _, val := range []string{"", "x", held[1:], held + "\x00", "\x04" + held[1:]} {
		mark := b.room.Mark()
		says(t, m.Put(name.VersionKey("abcd", "b/1", b.want.items["abcd"]["b/1"][0].ID), val), api.OK)
		lost("", "", 100, "")
		lost("b", "/", 1, "")
		b.told("abcd", "", "", 1, tokenOf("kb/1"), "b/2 > kb/2")
		b.told("abcd", "", "", 9, tokenOf("pb"), "c")
		b.room.Back(mark)
	}
	says(t, m.Put("vabcd", held), api.OK)
	says(t, m.Put("vabcd\x01", held), api.OK)
	b.told("abcd", "", "/", 9, "", "a c | b/")
}

// P0: rooms of which a page is free, or holds noughts or something else, or what another one does, or whose numbers of the maps are others: each call ends, tells nothing beside an error, and changes nothing.
func TestBrokenRooms(t *testing.T) {
	b := laid(t, 60)
	for k := range 30 {
		b.putAll(someBuckets()[k%3], fmt.Sprintf("%d/%d", k%5, k))
		b.delete(someBuckets()[k%3], fmt.Sprintf("%d/%d", k%5, k-6), 1)
	}
	r, were := b.room, map[api.Errno]int{}
	agree := func() {
		t.Helper()
		mark := r.Mark()
		for k, s := range someBuckets() {
			for _, asked := range [][3]string{{"", "", ""}, {"", "/", ""}, {"2", "/", tokenOf("k2/1")}, {"", "1", tokenOf("p1/")}} {
				got, e := listing.List(r, s, asked[0], asked[1], 1+k*5, asked[2])
				if e != api.OK {
					same(t, got, e, api.List{}, e)
				}
				if e != api.OK && e != api.ErrLost && e != api.NoBucket || r.Mark() != mark {
					t.Fatalf("%d; %d puts", e, r.Mark()-mark)
				}
				were[e]++
			}
		}
	}
	agree()
	for page := range 60 {
		held, e := r.Read(page)
		if e != api.OK {
			continue
		}
		mark := r.Mark()
		says(t, r.Free(page), api.OK)
		agree()
		r.Back(mark)
		for _, s := range []string{"", "n", strings.Repeat("l", 512), held[:40] + "x" + held[41:], held[:5] + "x" + held[6:]} {
			says(t, r.Write(page, s), api.OK)
			agree()
			r.Back(mark)
		}
		for other := range 60 {
			if s, e := r.Read(other); e == api.OK {
				says(t, r.Write(page, s), api.OK)
				agree()
				r.Back(mark)
			}
		}
	}
	for _, n := range []uint64{0, 1, 2, 7, 51, 1 << 16, 1 << 32, math.MaxUint64} {
		mark := r.Mark()
		says(t, r.SetRoot(4, n), api.OK)
		agree()
		r.Back(mark)
	}
	if were[api.OK] < 20 || were[api.ErrLost] < 20 || were[api.NoBucket] < 3 {
		t.Fatal(were)
	}
	for _, s := range someBuckets() {
		b.list(s, "", "/", 9, "")
	}
}

// P0, P16.1: where a page of the map is no more, a listing that comes there is lost; it never tells less, as if that were all.
func TestLostPages(t *testing.T) {
	b := laid(t, 500)
	for k := range 80 {
		for _, s := range someBuckets() {
			b.putAll(s, fmt.Sprintf("%02d/%d", k/4, k))
		}
	}
	pages, e := tree.At(b.room, 4).Pages()
	says(t, e, api.OK)
	lost, whole := 0, 0
	for _, page := range pages {
		mark := b.room.Mark()
		says(t, b.room.Free(page), api.OK)
		for _, s := range someBuckets() {
			for _, limit := range []int{9, 100} {
				got, e := listing.List(b.room, s, "", "", limit, "")
				if e == api.OK {
					whole++
					want, _ := b.want.list(s, "", "", limit, "")
					same(t, got, e, want, api.OK)
				} else {
					lost++
					same(t, got, e, api.List{}, api.ErrLost)
				}
			}
		}
		b.room.Back(mark)
	}
	if lost < len(pages) || whole < len(pages) {
		t.Fatalf("%d lost, %d whole, of %d pages", lost, whole, len(pages))
	}
}

// P16.1: an item may have many versions, and many may be gone: the walk goes on behind all of them, and tells the latest one of each.
func TestManyVersions(t *testing.T) {
	b := laid(t, 3000)
	s := chunks.At(b.room)
	for k := range 1500 {
		_, e := version.Put(b.room, s, "abcd", []string{"a", "b/1", "c"}[k%3], nil, uint64(k))
		says(t, e, api.OK)
	}
	for k := range 300 {
		_, e := version.Delete(b.room, s, "abcd", fmt.Sprintf("b/%03d", k), 1)
		says(t, e, api.OK)
	}
	got, e := listing.List(b.room, "abcd", "", "", 9, "")
	want := []api.Entry{{Key: "a", ID: 1498, Born: 1497}, {Key: "b/1", ID: 1499, Born: 1498}, {Key: "c", ID: 1500, Born: 1499}}
	same(t, got, e, api.List{Entries: want}, api.OK)
	got, e = listing.List(b.room, "abcd", "", "/", 2, "")
	same(t, got, e, api.List{Entries: want[:1], Prefixes: []string{"b/"}, More: true, Token: tokenOf("pb/")}, api.OK)
	got, e = listing.List(b.room, "abcd", "b/", "", 1, tokenOf("kb/0"))
	same(t, got, e, api.List{Entries: want[1:2]}, api.OK)
	says(t, version.Remove(b.room, s, "abcd", "b/1", 1499), api.OK)
	_, e = version.Delete(b.room, s, "abcd", "b/1", 1)
	says(t, e, api.OK)
	got, e = listing.List(b.room, "abcd", "", "/", 2, "")
	same(t, got, e, api.List{Entries: []api.Entry{want[0], want[2]}}, api.OK)
}
