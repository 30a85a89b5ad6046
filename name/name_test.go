package name_test

import (
	"math"
	"slices"
	"strings"
	"testing"
	"unsafe"

	"cooperage/api"
	"cooperage/name"
)

// P13.1, Bucket: names of each length, and with a sign of each kind at each place, by hand.
func TestBucketTellsNames(t *testing.T) {
	for _, s := range []string{
		"abc", "123", "a-b", "a--b", "0-9", "zzz", "z9a", "abcd", "a1b2c3", "abcdefghijklmno", "abcdefghijklmnop", "a--------------b", "0123456789abcdef",
	} {
		if !name.Bucket(s) || name.BucketKey(s) != "b"+s+"\x00" {
			t.Errorf("%q: is no name", s)
		}
	}
	for _, s := range []string{
		"", "a", "-", "ab", "--", "a-", "-a", "---", "-ab", "ab-", "-a-", "--a", "a--", "abcdefghijklmnopq", "abcdefghijklmnop-", "-bcdefghijklmnop", "abcdefghijklmno-",
		"Abc", "aBc", "abC", "ABC", "a.b", "a_b", "a b", " ab", "ab ", "a/b", "abc\n", "\nabc", "a\x00b", "\x00ab", "ab\x00", "abc\x00", "a\x80b", "ab\xff", "\xffab",
		"aéb", "é", "éa", "a`b", "a{b", "a@b", "a[b", "a/b", "a:b", "a,b", "a–b", "٣٣٣", "ａｂｃ", strings.Repeat("a", 17), strings.Repeat("a", 272), strings.Repeat("a", 1<<20),
	} {
		if name.Bucket(s) || name.BucketKey(s) != "" {
			t.Errorf("%.30q: is a name", s)
		}
	}
}

// P13.1, Bucket, Item: texts of all lengths, each byte at each place of some.
func TestNamesWithEachByteAtEachPlace(t *testing.T) {
	for size := range 300 {
		for _, one := range []string{"a", "z", "0", "9", "-", "A", ".", "\x00", "\x01", "\x7f", "\x80", "\xff"} {
			holdsNames(t, strings.Repeat(one, size))
		}
	}
	for _, size := range []int{1, 2, 3, 4, 15, 16, 17, 39, 40, 41} {
		for at := range size {
			text := []byte(strings.Repeat("a", size))
			for one := range 256 {
				text[at] = byte(one)
				holdsNames(t, string(text))
			}
		}
	}
	for one := range 256 {
		for two := range 256 {
			holdsNames(t, string([]byte{'m', byte(one), byte(two)}))
			holdsNames(t, string([]byte{byte(one), 'm', byte(two)}))
		}
	}
	for _, s := range textsOf("-a0A\x00\xff", 5) {
		holdsNames(t, s)
	}
}

// textsOf: all texts of up to so many of those bytes.
func textsOf(bytes string, longest int) []string {
	all := []string{""}
	for from, size := 0, 1; size <= longest; size++ {
		shorter := all[from:]
		from = len(all)
		for _, text := range shorter {
			for i := range len(bytes) {
				all = append(all, text+bytes[i:i+1])
			}
		}
	}
	return all
}

// P13.1, Item: keys of 0, 1, 40 and 41 bytes, and a byte 0 first, last and within, by hand.
func TestItemTellsKeys(t *testing.T) {
	forty := strings.Repeat("k", 40)
	for _, s := range []string{"a", "\x01", "\xff", " ", "-", "A", "a/b", "é", "key", "\x80\x81", forty[:39], forty, strings.Repeat("\xff", 40)} {
		if !name.Item(s) {
			t.Errorf("%q: is no key", s)
		}
	}
	for _, s := range []string{
		"", "\x00", "\x00a", "a\x00", "a\x00b", "\x00\x00", forty + "k", forty[:39] + "\x00", "\x00" + forty[:39], forty[:20] + "\x00" + forty[:19],
		strings.Repeat("é", 21), strings.Repeat("k", 255), strings.Repeat("k", 256), strings.Repeat("k", 296), strings.Repeat("k", 1<<20),
	} {
		if name.Item(s) {
			t.Errorf("%.50q: is a key", s)
		}
	}
}

// P13.1: the document's example, and keys by hand.
func TestKeysByHand(t *testing.T) {
	for _, c := range []struct{ got, want string }{
		{name.BucketKey("abc"), "babc\x00"},
		{name.VersionKey("abc", "key", 0), "vabc\x00key\x00\xff\xff\xff\xff\xff\xff\xff\xff"},
		{name.VersionKey("abc", "key", 1), "vabc\x00key\x00\xff\xff\xff\xff\xff\xff\xff\xfe"},
		{name.VersionKey("a-9", "\x01\xff", 0x0102030405060708), "va-9\x00\x01\xff\x00\xfe\xfd\xfc\xfb\xfa\xf9\xf8\xf7"},
		{name.VersionKey("abc", "k", math.MaxUint64), "vabc\x00k\x00\x00\x00\x00\x00\x00\x00\x00\x00"},
		{name.UploadKey("abc", "key", 0), "uabc\x00key\x00\x00\x00\x00\x00\x00\x00\x00\x00"},
		{name.UploadKey("abc", "key", 1), "uabc\x00key\x00\x00\x00\x00\x00\x00\x00\x00\x01"},
		{name.UploadKey("a-9", "\x01\xff", 0x0102030405060708), "ua-9\x00\x01\xff\x00\x01\x02\x03\x04\x05\x06\x07\x08"},
		{name.UploadKey("abc", "k", math.MaxUint64), "uabc\x00k\x00\xff\xff\xff\xff\xff\xff\xff\xff"},
		{name.PartKey(0, 0), "p\x00\x00\x00\x00\x00\x00\x00\x00\x00"},
		{name.PartKey(2, 3), "p\x00\x00\x00\x00\x00\x00\x00\x02\x03"},
		{name.PartKey(0x0102030405060708, 200), "p\x01\x02\x03\x04\x05\x06\x07\x08\xc8"},
		{name.PartKey(math.MaxUint64, 255), "p\xff\xff\xff\xff\xff\xff\xff\xff\xff"},
		{name.Under('v', "abc"), "vabc\x00"},
		{name.Under('v', "abc", "key"), "vabc\x00key\x00"},
		{name.Under('p'), "p"},
	} {
		if c.got != c.want {
			t.Errorf("%q, not %q", c.got, c.want)
		}
	}
}

// numbers: at the edges of each byte.
func numbers() []uint64 {
	list := []uint64{0, 1, 2, 1<<31 - 1, 1 << 31, 1<<63 - 1, math.MaxUint64 - 1, math.MaxUint64, 0x0102030405060708, 0xfffefdfcfbfaf9f8}
	for shift := 8; shift < 64; shift += 8 {
		list = append(list, 1<<shift-1, 1<<shift, 1<<shift+1)
	}
	return list
}

// Names, and texts that are none, at the edges.
func buckets() []string {
	return []string{"abc", "a-b", "000", "abcdefghijklmnop", "", "ab", "abcdefghijklmnopq", "-ab", "ab-", "aBc", "a.b", "a\x00b", "abc\x00", "\x00abc", "a\xffb", "aéb"}
}

func items() []string {
	forty := strings.Repeat("i", 40)
	return []string{"k", "key", "\x01", "\xff\xff", forty, "", forty + "i", "\x00", "\x00k", "k\x00", "k\x00k"}
}

// P13.1, VersionKey, UploadKey and their Reads: all names and what are none, with all numbers.
func TestKeysOfAllNames(t *testing.T) {
	for _, bucket := range buckets() {
		holdsNames(t, bucket)
		for _, item := range items() {
			for _, id := range numbers() {
				holdsKeys(t, bucket, item, id)
			}
		}
	}
	most := name.VersionKey(strings.Repeat("a", api.MaxName), strings.Repeat("a", api.MaxItem), 1)
	if len(most) != 67 || len(most) > api.MaxKey {
		t.Errorf("%d bytes", len(most))
	}
}

// P13.1, PartKey: parts from far below 0 to far above 255.
func TestPartKeyTakesPartsOfAByte(t *testing.T) {
	for _, upload := range numbers() {
		for part := -300; part < 800; part++ {
			holdsPart(t, upload, part)
		}
		for _, part := range []int{math.MinInt, math.MinInt + 1, math.MinInt + 255, -1 << 32, -1<<32 + 7, -1 << 31, -65536, 4096, 65536, 1<<31 - 1, 1 << 32, 1<<32 + 7, math.MaxInt - 255, math.MaxInt - 1, math.MaxInt} {
			if got := name.PartKey(upload, part); got != "" {
				t.Errorf("PartKey(%d, %d): %q", upload, part, got)
			}
		}
	}
}

// refused: that a key is neither a version's nor an upload's.
func refused(t *testing.T, key string) {
	t.Helper()
	tellsKey(t, key, read{}, read{})
}

// P13.1, ReadVersion and ReadUpload: keys cut off at each byte, with bytes more at each place, with another first letter.
func TestReadRefusesKeysThatAreNone(t *testing.T) {
	for _, key := range []string{
		name.VersionKey("abc", "key", 7), name.UploadKey("abc", "key", 7), name.VersionKey("abcdefghijklmnop", strings.Repeat("i", 40), 1), name.UploadKey("a-0", "i", math.MaxUint64),
	} {
		for end := range len(key) {
			refused(t, key[:end])
			refused(t, key[end+1:])
		}
		for one := range 256 {
			refused(t, key+string([]byte{byte(one)}))
			readsKey(t, string([]byte{byte(one)})+key)
			if other := byte(one); other != 'v' && other != 'u' {
				refused(t, string([]byte{other})+key)
				refused(t, string([]byte{other})+key[1:])
			}
		}
		refused(t, key+key)
		refused(t, strings.ToUpper(key[:1])+key[1:])
	}
	for _, key := range []string{
		"", "v", "u", "v\x00", "v\x00\x00", "v\x00\x00\x00\x00\x00\x00\x00\x00\x00\x00", "u\x00\x00\x00\x00\x00\x00\x00\x00\x00\x00", "vabc", "vabc\x00", "vabc\x00k", "vabc\x00k\x00", "uabc\x00k\x00",
		"vabc\x00k\x001234567", "vabc\x00k\x00123456789", "vabc12345678", "vabc\x0012345678", "vabc\x00\x0012345678", "v\x00k\x0012345678", "vabck\x0012345678", "abc\x00k\x0012345678",
		name.BucketKey("abc"), name.PartKey(1, 2), name.Under('v', "abc"), name.Under('u', "abc", "k"), name.Under('v', "abc", "k", "x"), strings.Repeat("v", 1<<20), "v" + strings.Repeat("\x00", 1<<20),
	} {
		refused(t, key)
	}
}

// P13.1, ReadVersion and ReadUpload: keys with a name in them that is none.
func TestReadRefusesNamesThatAreNone(t *testing.T) {
	for _, kind := range []string{"v", "u"} {
		for _, bucket := range buckets() {
			for _, item := range items() {
				for _, number := range []string{"12345678", "\x00\x00\x00\x00\x00\x00\x00\x00", "\xff\xff\xff\xff\xff\xff\xff\xff", "\x00234567\x00", "", "1234567", "123456789"} {
					readsKey(t, kind+bucket+"\x00"+item+"\x00"+number)
					readsKey(t, kind+bucket+"\x00"+item+number)
				}
			}
		}
	}
	for _, bucket := range []string{"ab", "Abc", "abc-", "abcdefghijklmnopq", "a\xffb"} {
		refused(t, "v"+bucket+"\x00k\x0012345678")
		refused(t, "u"+bucket+"\x00k\x0012345678")
	}
	long := strings.Repeat("i", 41)
	refused(t, "vabc\x00"+long+"\x0012345678")
	refused(t, "uabc\x00"+long+"\x0012345678")
	tellsKey(t, "vabc\x00"+long[1:]+"\x00\x00\x00\x00\x00\x00\x00\x00\x00", read{"abc", long[1:], math.MaxUint64, true}, read{})
	tellsKey(t, "uabc\x00"+long[1:]+"\x00\x00\x00\x00\x00\x00\x00\x00\x00", read{}, read{"abc", long[1:], 0, true})
}

// P13.1, Under: of no text, of several, with a byte 0 at each place of each; of all kinds; of texts that are no names.
func TestUnderOfSeveralTexts(t *testing.T) {
	for kind := range 256 {
		if got, want := name.Under(byte(kind)), string([]byte{byte(kind)}); got != want {
			t.Errorf("Under(%d): %q", kind, got)
		}
		holdsUnder(t, byte(kind), "abc")
		holdsUnder(t, byte(kind), "abc", "key", "")
		holdsUnder(t, byte(kind), "a\x00")
	}
	texts := []string{"", "a", "abc", "\x01", "\xff\xff", "A.B", strings.Repeat("k", 50), "\x00", "\x00a", "a\x00", "a\x00a"}
	for _, one := range texts {
		holdsUnder(t, 'v', one)
		for _, two := range texts {
			holdsUnder(t, 'v', one, two)
			for _, three := range texts {
				holdsUnder(t, 'v', one, two, three)
			}
		}
	}
	for _, c := range []struct {
		parts []string
		want  string
	}{
		{[]string{""}, "x\x00"}, {[]string{"", ""}, "x\x00\x00"}, {[]string{"a", "", "b"}, "xa\x00\x00b\x00"}, {[]string{"A", "\xff"}, "xA\x00\xff\x00"},
		{[]string{"\x00"}, ""}, {[]string{"a", "\x00"}, ""}, {[]string{"a\x00", "b"}, ""}, {[]string{"a", "b\x00c", "d"}, ""},
	} {
		if got := name.Under('x', c.parts...); got != c.want {
			t.Errorf("Under(x, %q): %q", c.parts, got)
		}
	}
}

// P13.1, Behind: by hand: of "", of bytes that are all 255, of texts that end in some of them.
func TestBehindByHand(t *testing.T) {
	for s, want := range map[string]string{
		"": "", "\xff": "", "\xff\xff": "", strings.Repeat("\xff", 1000): "", "a": "b", "\x00": "\x01", "\xfe": "\xff", "\x7f": "\x80", "ab": "ac", "ab\x00": "ab\x01",
		"a\xff": "b", "a\xff\xff": "b", "\x00\xff": "\x01", "\xfe\xff": "\xff", "\xff\xfe": "\xff\xff", "\xff\xfe\xff": "\xff\xff", "\xffa": "\xffb", "a\xffb": "a\xffc", "a\xffb\xff": "a\xffc",
		"a" + strings.Repeat("\xff", 1000): "b", "vabc\x00": "vabc\x01", "é": "\xc3\xaa",
	} {
		if got := name.Behind(s); got != want {
			t.Errorf("Behind(%.20q): %.20q, not %q", s, got, want)
		}
	}
}

// P13.2, Behind: all texts of up to four bytes, the least, the greatest and some side by side: it is above all that begin with a text, and not above anything else that is above them.
func TestBehindIsTheLeastAboveAll(t *testing.T) {
	texts := textsOf("\x00\x01a\xfe\xff", 4)
	for _, s := range texts {
		holdsBehind(t, s, texts)
	}
	for one := range 256 {
		s := string([]byte{byte(one)})
		var others []string
		for other := range 256 {
			text := string([]byte{byte(other)})
			others = append(others, text, text+"\x00", text+"\xff\xff", s+text, s+"\xff"+text)
		}
		holdsBehind(t, s, others)
		holdsBehind(t, "x"+s, append(others, "x", "y"))
		holdsBehind(t, s+"\xff", others)
	}
}

// P13.1, Token and Told: by hand.
func TestTokensByHand(t *testing.T) {
	for text, token := range map[string]string{"": "00000000", "123456789": "cbf43926313233343536373839", "\x00": "d202ef8d00", "\xff\xff\xff\xff": "ffffffffffffffff", "a": "e8b7be4361"} {
		if got := name.Token(text); got != token {
			t.Errorf("Token(%q): %q, not %q", text, got, token)
		}
		if got, ok := name.Told(token); got != text || !ok {
			t.Errorf("Told(%q): %q, %v", token, got, ok)
		}
	}
	for _, token := range []string{
		"", "0", "00", "0000000", "000000000", "0000000000", "cbf43926", "cbf4392631323334353637383", "cbf439263132333435363738", "CBF43926313233343536373839", "cbf43926 313233343536373839",
		"e8b7be4361\x00", "e8b7be43 61", " e8b7be4361", "e8b7be4361\n", "0xe8b7be4361", "e8b7be436G", "e8b7be436g", "e8b7be43:1", "61e8b7be43", "43beb7e861", "e8b7be4361e8b7be4361", "a", "e8b7be43a",
		strings.Repeat("0", 1<<20), strings.Repeat("z", 1<<20),
	} {
		if got, ok := name.Told(token); got != "" || ok {
			t.Errorf("Told(%.30q): %q, %v", token, got, ok)
		}
	}
}

// P13.1, Told: tokens cut off at each sign, with each other byte at each place, and with signs more.
func TestToldRefusesWhatIsNoToken(t *testing.T) {
	for _, text := range []string{"", "a", "kkey", "p\xff/", "v\x00abc", "123456789", strings.Repeat("k", 41)} {
		token := tokenOf(text)
		holdsToken(t, text)
		for end := range len(token) {
			tells(t, token[:end])
			tells(t, token[end:]+token[:end])
			for one := range 256 {
				other := token[:end] + string([]byte{byte(one)}) + token[end+1:]
				if got, ok := name.Told(other); other != token && (got != "" || ok) {
					t.Fatalf("Told(%q): %q, %v", other, got, ok)
				}
			}
		}
		for one := range 256 {
			tells(t, token+string([]byte{byte(one)}))
			tells(t, string([]byte{byte(one)})+token)
			tells(t, token+string([]byte{byte(one), '0'}))
		}
		if got, ok := name.Told(strings.ToUpper(token)); strings.ToUpper(token) != token && (ok || got != "") {
			t.Errorf("Told of great letters of %q: %q, %v", token, got, ok)
		}
	}
}

// shares: whether two texts have memory in common.
func shares(a, b string) bool {
	from, to := uintptr(unsafe.Pointer(unsafe.StringData(a))), uintptr(unsafe.Pointer(unsafe.StringData(b)))
	return a != "" && b != "" && from < to+uintptr(len(b)) && to < from+uintptr(len(a))
}

// R4: what is handed in is not changed; what is answered is new memory.
func TestCallsShareNothing(t *testing.T) {
	parts := []string{"abc", "key"}
	under := name.Under('v', parts...)
	if !slices.Equal(parts, []string{"abc", "key"}) || shares(under, parts[0]) || shares(under, parts[1]) || shares(under, name.Under('v', parts...)) {
		t.Fatalf("Under: %q, %q", under, parts)
	}
	for _, key := range []string{name.VersionKey("abc", "key", 1), name.UploadKey("abc", "key", 1)} {
		bucket, item, _, ok := name.ReadVersion(key)
		if !ok {
			bucket, item, _, ok = name.ReadUpload(key)
		}
		if !ok || shares(bucket, key) || shares(item, key) || shares(bucket, item) {
			t.Fatalf("%q: %q, %q, %v", key, bucket, item, ok)
		}
	}
	for _, text := range []string{"a text", "a text\xff", "x"} {
		if behind := name.Behind(text); shares(behind, text) {
			t.Fatalf("Behind: %q", behind)
		}
		token := name.Token(text)
		if got, _ := name.Told(token); got != text || shares(token, text) || shares(got, token) {
			t.Fatalf("Told: %q", got)
		}
	}
}

// R4: what was answered stays as it was, when the memory that was handed in holds something else.
func TestAnswersStayBehindTheirArguments(t *testing.T) {
	memory := []byte("vabc\x00key\x0012345678")
	given := unsafe.String(unsafe.SliceData(memory), len(memory))
	bucket, item, _, ok := name.ReadVersion(given)
	answers := []string{name.BucketKey(given[1:4]), name.VersionKey(given[1:4], given[5:8], 1), name.UploadKey(given[1:4], given[5:8], 1), name.Under('x', given[1:4], given[5:8]), name.Behind(given[:8]), name.Token(given[1:4])}
	for i := range memory {
		memory[i] = 'y'
	}
	want := []string{"babc\x00", versionKey("abc", "key", 1), uploadKey("abc", "key", 1), "xabc\x00key\x00", "vabc\x00kez", tokenOf("abc")}
	if bucket != "abc" || item != "key" || !ok || !slices.Equal(answers, want) {
		t.Errorf("%q, %q, %q", bucket, item, answers)
	}
}
