package sums

import (
	"crypto/sha256"
	"encoding/hex"
	"hash/crc32"
	"math/big"
	"math/rand"
	"strings"
	"testing"
)

// allBytes: each value of a byte once, in order.
func allBytes() string {
	all := make([]byte, 256)
	for i := range all {
		all[i] = byte(i)
	}
	return string(all)
}

// someText: n bytes of any values, the same ones at each run for one source.
func someText(source *rand.Rand, n int) string {
	text := make([]byte, n)
	for i := range text {
		text[i] = byte(source.Intn(256))
	}
	return string(text)
}

// texts: ordinary ones, all lengths around the first few blocks' ends, and all byte values.
func texts() []string {
	source := rand.New(rand.NewSource(1))
	list := []string{
		"abc", "a", "hello", "grüße, 世界", "\x00", "\xff", "\x80", "\xc3\x28",
		allBytes(), strings.Repeat(allBytes(), 17),
		strings.Repeat("\x00", 64), strings.Repeat("\xff", 119), someText(source, 100003),
	}
	for n := 0; n <= 300; n++ {
		list = append(list, someText(source, n), strings.Repeat("x", n))
	}
	return list
}

// slowCheck: the check sum bit by bit, in the document's own words.
func slowCheck(s string) uint32 {
	sum := uint32(0xffffffff)
	for i := 0; i < len(s); i++ {
		sum ^= uint32(s[i])
		for range 8 {
			fell := sum & 1
			sum >>= 1
			if fell == 1 {
				sum ^= 0xedb88320
			}
		}
	}
	return sum ^ 0xffffffff
}

// firstPrimes: the first n primes.
func firstPrimes(n int) []int64 {
	var primes []int64
	for p := int64(2); len(primes) < n; p++ {
		if big.NewInt(p).ProbablyPrime(0) {
			primes = append(primes, p)
		}
	}
	return primes
}

// behindPoint: the first 32 bits behind the point of the cube root of p.
func behindPoint(p int64) uint32 {
	scaled := new(big.Int).Lsh(big.NewInt(p), 96)
	low, high := big.NewInt(0), new(big.Int).Lsh(big.NewInt(p), 32)
	for new(big.Int).Sub(high, low).Cmp(big.NewInt(1)) > 0 {
		middle := new(big.Int).Rsh(new(big.Int).Add(low, high), 1)
		if new(big.Int).Exp(middle, big.NewInt(3), nil).Cmp(scaled) <= 0 {
			low = middle
		} else {
			high = middle
		}
	}
	return uint32(low.Uint64())
}

// P1.1, Print: known fingerprints, of the empty text and of the edges of a block among them.
func TestPrintTellsKnownFingerprints(t *testing.T) {
	known := map[string]string{
		"":                          "e3b0c44298fc1c149afbf4c8996fb92427ae41e4649b934ca495991b7852b855",
		"abc":                       "ba7816bf8f01cfea414140de5dae2223b00361a396177a9cb410ff61f20015ad",
		strings.Repeat("a", 55):     "9f4390f8d30c2dd92ec9f095b65e2b9ae9b0a925a5258e241c9f1e910f734318",
		strings.Repeat("a", 56):     "b35439a4ac6f0948b6d6f9e3c6af0f5f590ce20f1bde7090ef7970686ec6738a",
		strings.Repeat("a", 63):     "7d3e74a05d7db15bce4ad9ec0658ea98e3f06eeecf16b4c6fff2da457ddc2f34",
		strings.Repeat("a", 64):     "ffe054fe7ae0cb6dc65c3af9b61d5209f439851db43d0ba5997337df154668eb",
		strings.Repeat("a", 119):    "31eba51c313a5c08226adf18d4a359cfdfd8d2e816b13f4af952f7ea6584dcfb",
		strings.Repeat("a", 120):    "2f3d335432c70b580af0e8e1b3674a7c020d683aa5f73aaaedfdc55af904c21c",
		strings.Repeat("a", 100000): "6d1cf22d7cc09b085dfc25ee1a1f3ae0265804c607bc2074ad253bcc82fd81ee",
	}
	for text, want := range known {
		if got := hex.EncodeToString([]byte(Print(text))); got != want {
			t.Errorf("Print of %d bytes: %s, not %s", len(text), got, want)
		}
	}
}

// P1.1, Print: at every length around the first blocks' ends, and at all byte values.
func TestPrintIsSHA256(t *testing.T) {
	for _, text := range texts() {
		want := sha256.Sum256([]byte(text))
		if got := Print(text); got != string(want[:]) {
			t.Errorf("Print of %d bytes (%.10q): %x, not %x", len(text), text, got, want)
		}
	}
}

// P1.1, Print: the length stands in all eight bytes, which a text that a test can hold doesn't show.
func TestEndingTellsLengthsInEightBytes(t *testing.T) {
	for _, told := range []struct {
		size uint64
		want string
	}{
		{0, "\x00\x00\x00\x00\x00\x00\x00\x00"},
		{64, "\x00\x00\x00\x00\x00\x00\x02\x00"},
		{1<<29 - 64, "\x00\x00\x00\x00\xff\xff\xfe\x00"},
		{1 << 29, "\x00\x00\x00\x01\x00\x00\x00\x00"},
		{0x0123456789abcdc0, "\x09\x1a\x2b\x3c\x4d\x5e\x6e\x00"},
	} {
		if got := ending("", told.size); len(got) != 64 || got[56:] != told.want {
			t.Errorf("ending of a text of %d bytes: %x", told.size, got)
		}
	}
}

// P1.1, Print: the numbers K are those that the document derives from the primes.
func TestCubeRootsAreThoseOfPrimes(t *testing.T) {
	for i, p := range firstPrimes(64) {
		if want := behindPoint(p); cubeRoots[i] != want {
			t.Errorf("number %d, of the prime %d: %08x, not %08x", i, p, cubeRoots[i], want)
		}
	}
}

// P1.1, Check: known check sums.
func TestCheckTellsKnownCheckSums(t *testing.T) {
	for text, want := range map[string]uint32{
		"":                 0,
		"a":                0xe8b7be43,
		"abc":              0x352441c2,
		"123456789":        0xcbf43926,
		"\x00":             0xd202ef8d,
		"\xff":             0xff000000,
		"\xff\xff\xff\xff": 0xffffffff,
	} {
		if got := Check(text); got != want {
			t.Errorf("Check(%q): %08x, not %08x", text, got, want)
		}
	}
}

// P1.1, Check: against the document's words, bit by bit, and against another hand's work.
func TestCheckIsCRC32(t *testing.T) {
	for _, text := range texts() {
		got := Check(text)
		if want := slowCheck(text); got != want {
			t.Errorf("Check of %d bytes (%.10q): %08x, not %08x", len(text), text, got, want)
		}
		if want := crc32.ChecksumIEEE([]byte(text)); got != want {
			t.Errorf("Check of %d bytes (%.10q): %08x, the library says %08x", len(text), text, got, want)
		}
	}
	for _, b := range []byte(allBytes()) {
		if text := string([]byte{b}); Check(text) != slowCheck(text) {
			t.Errorf("Check(%q): %08x, not %08x", text, Check(text), slowCheck(text))
		}
	}
}

// P1.1, Hex: each byte in two small digits.
func TestHexTellsTwoSmallDigitsForEachByte(t *testing.T) {
	for text, want := range map[string]string{
		"":                      "",
		"\x00":                  "00",
		"\x0f\xf0":              "0ff0",
		"\x00\xffz":             "00ff7a",
		"\x01\x23\x45\x67":      "01234567",
		"\x89\xab\xcd\xef":      "89abcdef",
		"\xc3\x28 not a rune\n": "c328206e6f7420612072756e650a",
	} {
		if got := Hex(text); got != want {
			t.Errorf("Hex(%q): %q, not %q", text, got, want)
		}
	}
	for _, text := range texts() {
		if got := Hex(text); got != hex.EncodeToString([]byte(text)) {
			t.Errorf("Hex of %d bytes (%.10q): %.40q", len(text), text, got)
		}
	}
}

// P1.1, Raw: the way back of Hex.
func TestRawIsTheWayBackOfHex(t *testing.T) {
	for _, text := range texts() {
		if got, ok := Raw(Hex(text)); !ok || got != text {
			t.Errorf("Raw of Hex of %d bytes (%.10q): %.10q, %v", len(text), text, got, ok)
		}
	}
	if got, ok := Raw(""); !ok || got != "" {
		t.Errorf("Raw of no digits: %q, %v", got, ok)
	}
}

// P1.1, Raw: of all pairs of bytes those alone are told that are some byte's two digits.
func TestRawRefusesAllButDigits(t *testing.T) {
	raws := make(map[string]byte)
	for _, b := range []byte(allBytes()) {
		raws[hex.EncodeToString([]byte{b})] = b
	}
	for high := range 256 {
		for low := range 256 {
			pair := string([]byte{byte(high), byte(low)})
			want, right := raws[pair]
			for _, frame := range []struct{ ahead, behind, wantAhead, wantBehind string }{
				{"", "", "", ""}, {"00", "", "\x00", ""}, {"", "ff", "", "\xff"},
			} {
				got, ok := Raw(frame.ahead + pair + frame.behind)
				if ok != right || ok && got != frame.wantAhead+string([]byte{want})+frame.wantBehind || !ok && got != "" {
					t.Fatalf("Raw(%q): %q, %v", frame.ahead+pair+frame.behind, got, ok)
				}
			}
		}
	}
}

// P1.1, Raw: wrong lengths, great letters, white space and signs.
func TestRawRefusesWrongTexts(t *testing.T) {
	for _, digits := range []string{
		"0", "f", "000", "00f", "0g", "g0", "FF", "aB", "Ab", "zz", "00 ", " 00", "0 0", " 0", "0 ",
		"0x00", "0x", "+1", "-1", "1_0", "00\n", "00\x00", "\x00\x00", "\xff\xff", "é", "00ff7", "００", "/0", "0:", "`0", "0@",
		strings.Repeat("0", 1001), strings.Repeat("0", 1000) + "0G",
	} {
		if got, ok := Raw(digits); ok || got != "" {
			t.Errorf("Raw(%.20q): %q, %v", digits, got, ok)
		}
	}
}

// changed: the text with the four bytes of by put to those at the place at, without carry.
func changed(text string, at int, by uint32) string {
	other := []byte(text)
	for i := 0; i < 4 && at+i < len(other); i++ {
		other[at+i] ^= byte(by >> (8 * i))
	}
	return string(other)
}

// P1.2: texts that differ in one or two bytes side by side, in each way and at each place.
func TestCheckTellsTwoBytesApart(t *testing.T) {
	source := rand.New(rand.NewSource(2))
	for _, n := range []int{1, 2, 3, 4, 9} {
		text := someText(source, n)
		for at := range n {
			for by := uint32(1); by < 1<<16; by++ {
				if at == n-1 && by > 255 {
					break
				}
				if other := changed(text, at, by); Check(other) == Check(text) {
					t.Fatalf("Check(%q) and Check(%q) are alike", text, other)
				}
			}
		}
	}
}

// P1.2: texts that differ in up to four bytes side by side, of many lengths.
func TestCheckTellsFourBytesApart(t *testing.T) {
	source := rand.New(rand.NewSource(3))
	for _, n := range []int{4, 5, 64, 511, 512, 4000} {
		text := someText(source, n)
		sum := Check(text)
		for range 2000 {
			by := source.Uint32() >> (8 * source.Intn(4))
			if at := source.Intn(n - 3); by != 0 && Check(changed(text, at, by)) == sum {
				t.Fatalf("%d bytes changed at %d by %08x: the check sum is the same", n, at, by)
			}
		}
	}
}

// P1.2: of all texts of four bytes no two are alike: a change of any one bit shows, and what shows is as if
// each bit changed showed alone, so that 32 changes that stand in no way for one another do.
func TestCheckOfFourBytesIsOneToOne(t *testing.T) {
	base := Check("\x00\x00\x00\x00")
	var basis [32]uint32
	for bit := range 32 {
		shows := Check(changed("\x00\x00\x00\x00", 0, 1<<bit)) ^ base
		for top := 31; top >= 0; top-- {
			if shows>>top&1 == 0 {
				continue
			}
			if basis[top] == 0 {
				basis[top] = shows
				break
			}
			shows ^= basis[top]
		}
		if shows == 0 {
			t.Fatalf("bit %d shows as others together do", bit)
		}
	}
}

// P0, R4, R7: each call ends, none panics, and asked again each answers the same.
func TestCallsEndAtAllTexts(t *testing.T) {
	source := rand.New(rand.NewSource(4))
	for range 3000 {
		text := someText(source, source.Intn(200))
		raw, ok := Raw(text)
		again, okAgain := Raw(text)
		if raw != again || ok != okAgain || Print(text) != Print(text) || Check(text) != Check(text) || Hex(text) != Hex(text) {
			t.Fatalf("%q: unlike answers", text)
		}
		if len(Print(text)) != 32 || len(Hex(text)) != 2*len(text) || ok && Hex(raw) != text {
			t.Fatalf("%q: answers of wrong lengths", text)
		}
	}
}
