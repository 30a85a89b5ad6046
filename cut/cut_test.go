package cut

import (
	"fmt"
	"math/rand"
	"slices"
	"strings"
	"testing"
	"time"
	"unsafe"
)

// slowCell: the cell of 16 of the turned sum of eight bytes, in the document's own words, in integers.
func slowCell(window string) int {
	w := make([]int, 8)
	for k := range w {
		w[k] = int(window[k])
	}
	along := w[7] - w[5] + w[3] - w[1]
	across := w[6] - w[4] + w[2] - w[0]
	return ((along+3*across)%16 + 16) % 16
}

// slowFirst: how many bytes the first chunk of s has, s not being empty.
func slowFirst(s string) int {
	for n := 1; n < len(s); n++ {
		if n == 128 || n >= 16 && slowCell(s[n-8:n]) == 0 {
			return n
		}
	}
	return len(s)
}

func slowCut(s string) []string {
	var chunks []string
	for s != "" {
		n := slowFirst(s)
		chunks = append(chunks, s[:n])
		s = s[n:]
	}
	return chunks
}

// ended: whether a chunk ends behind its last byte whatever follows it.
func ended(chunk string) bool {
	n := len(chunk)
	return n == 128 || n >= 16 && slowCell(chunk[n-8:]) == 0
}

// differ: where two lists of chunks differ first, in words; "" if they don't.
func differ(got, want []string) string {
	if slices.Equal(got, want) {
		return ""
	}
	k := 0
	for k < min(len(got), len(want)) && got[k] == want[k] {
		k++
	}
	return fmt.Sprintf("%d chunks, not %d; from chunk %d on: %.200q, not %.200q", len(got), len(want), k, got[k:min(k+1, len(got))], want[k:min(k+1, len(want))])
}

// lengths: how many bytes each of a list has.
func lengths(list []string) []int {
	var told []int
	for _, one := range list {
		told = append(told, len(one))
	}
	return told
}

// someText: n bytes of any values, the same ones at each run for one source.
func someText(source *rand.Rand, n int) string {
	text := make([]byte, n)
	for i := range text {
		text[i] = byte(source.Intn(256))
	}
	return string(text)
}

// withCells: n bytes, of which the windows that end behind the k-th byte are in cell 0 where zero(k) says so, and in no other ones.
func withCells(source *rand.Rand, n int, zero func(k int) bool) string {
	text := someText(source, min(n, 7))
	for k := 8; k <= n; k++ {
		b := byte(source.Intn(256))
		for (slowCell(text[k-8:]+of(b)) == 0) != zero(k) {
			b++
		}
		text += of(b)
	}
	return text
}

// of: the text of one byte.
func of(b byte) string {
	return string([]byte{b})
}

func never(int) bool { return false }

// edges: the numbers of bytes at which something begins or ends.
func edges() []int {
	return []int{0, 1, 2, 7, 8, 9, 14, 15, 16, 17, 23, 24, 31, 32, 33, 126, 127, 128, 129, 130, 143, 144, 145, 255, 256, 257, 384, 1000}
}

// texts: ordinary ones, the edges, one byte's value only, and those in which no cell is 0 for long.
func texts() []string {
	source := rand.New(rand.NewSource(3))
	list := []string{
		"hello", "hello, world: a text of some forty bytes", "grüße, 世界", "\xc3\x28\xff\xfe",
		strings.Repeat("the quick brown fox jumps over the lazy dog. ", 50),
		strings.Repeat("\x00\x00\x00\x01", 200), strings.Repeat("ab", 300), someText(source, 20000),
		strings.Repeat("\x00", 40) + withCells(source, 300, never) + strings.Repeat("\xff", 40),
		strings.Repeat(withCells(source, 200, never)+someText(source, 200), 5),
	}
	for _, n := range edges() {
		list = append(list, someText(source, n), withCells(source, n, never))
		for _, b := range []byte{0, 1, 'a', 0x7f, 0x80, 0xff} {
			list = append(list, strings.Repeat(of(b), n))
		}
	}
	for n := range 300 {
		list = append(list, someText(source, n))
	}
	return list
}

// P3.1, Cut: chunks told by hand.
func TestCutTellsKnownChunks(t *testing.T) {
	zeros := func(n int) string { return strings.Repeat("\x00", n) }
	for _, one := range []struct {
		text string
		want []int
	}{
		{"", nil},
		{"a", []int{1}},
		{zeros(7), []int{7}},
		{zeros(8), []int{8}},
		{zeros(15), []int{15}},
		{zeros(16), []int{16}},
		{zeros(17), []int{16, 1}},
		{zeros(127), []int{16, 16, 16, 16, 16, 16, 16, 15}},
		{zeros(128), []int{16, 16, 16, 16, 16, 16, 16, 16}},
		{zeros(129), []int{16, 16, 16, 16, 16, 16, 16, 16, 1}},
		// A 1 at the end is in cell 1; eight bytes later it is out of the window.
		{zeros(15) + "\x01", []int{16}},
		{zeros(15) + "\x01" + zeros(20), []int{24, 12}},
		{zeros(15) + "\x10" + zeros(20), []int{16, 16, 4}},
		// 1 along the axis and 5 across come to 16; a byte later 3 against it and 1 across come to 0.
		{zeros(14) + "\x05\x01" + zeros(20), []int{16, 16, 4}},
		{zeros(14) + "\x03\x01" + zeros(20), []int{17, 16, 3}},
		{zeros(14) + "\x0d\x01" + zeros(20), []int{24, 12}},
		// Four bytes, each over again: never cell 0.
		{strings.Repeat("\x00\x00\x00\x01", 32), []int{128}},
		{strings.Repeat("\x00\x00\x00\x01", 33), []int{128, 4}},
		{strings.Repeat("\x00\x00\x00\x01", 64), []int{128, 128}},
	} {
		if got := lengths(Cut(one.text)); !slices.Equal(got, one.want) {
			t.Errorf("%q: chunks of %v bytes, not %v", one.text, got, one.want)
		}
	}
}

// P3.1, Cut: all kinds of texts, held against the document's own words.
func TestCutIsAsTheDocumentSays(t *testing.T) {
	for _, text := range texts() {
		if d := differ(Cut(text), slowCut(text)); d != "" {
			t.Errorf("Cut of %d bytes (%.10q): %s", len(text), text, d)
		}
	}
}

// P3.1, Cut: texts of one byte's value only are in cell 0 everywhere.
func TestTextOfOneValueIsCutAtEachSixteenthByte(t *testing.T) {
	for b := range 256 {
		for n := range 300 {
			got := Cut(strings.Repeat(of(byte(b)), n))
			for i, chunk := range got {
				if len(chunk) != min(16, n-16*i) {
					t.Fatalf("%d bytes %d: chunks of %v bytes", n, b, lengths(got))
				}
			}
			if len(got) != (n+15)/16 {
				t.Fatalf("%d bytes %d: chunks of %v bytes", n, b, lengths(got))
			}
		}
	}
}

// P3.1: where no cell is 0 a chunk ends behind its 128th byte, and nowhere else.
func TestChunkHas128BytesWhereNoCellIsZero(t *testing.T) {
	source := rand.New(rand.NewSource(4))
	for _, n := range []int{1, 15, 16, 17, 100, 127, 128, 129, 200, 255, 256, 257, 300, 1000} {
		text := withCells(source, n, never)
		got := Cut(text)
		for i, chunk := range got {
			if len(chunk) != min(128, n-128*i) {
				t.Errorf("%d bytes: chunks of %v bytes", n, lengths(got))
			}
		}
		if len(got) != (n+127)/128 {
			t.Errorf("%d bytes: chunks of %v bytes", n, lengths(got))
		}
	}
}

// P3.1: the first cell 0 behind 16 bytes or more ends the chunk there; one behind fewer bytes, or more than 128, doesn't.
func TestChunkEndsAtFirstCellZero(t *testing.T) {
	source := rand.New(rand.NewSource(5))
	for at := 8; at <= 140; at++ {
		want := at
		if at < 16 || at > 128 {
			want = 128
		}
		for range 20 {
			text := withCells(source, 200, func(k int) bool { return k == at })
			if got := Cut(text); len(got[0]) != want {
				t.Fatalf("cell 0 behind %d bytes alone: a chunk of %d bytes", at, len(got[0]))
			}
			text = withCells(source, 200, func(k int) bool { return k <= 15 || k >= at })
			if got := Cut(text); len(got[0]) != max(16, min(at, 128)) {
				t.Fatalf("cell 0 behind up to 15 bytes, and from %d on: a chunk of %d bytes", at, len(got[0]))
			}
		}
	}
}

// fed: what Feed and End tell of a text that is fed in parts; each chunk must be told by the very part in which it ends.
func fed(t *testing.T, c *Cutter, text string, parts []string) []string {
	t.Helper()
	var chunks []string
	want := slowCut(text)
	from, behind := 0, 0
	for _, part := range parts {
		var here []string
		from += len(part)
		for len(want) > 0 && behind+len(want[0]) <= from && ended(want[0]) {
			behind += len(want[0])
			here = append(here, want[0])
			want = want[1:]
		}
		got := c.Feed(part)
		if d := differ(got, here); d != "" {
			t.Fatalf("Feed of %d bytes, up to byte %d of %.10q: %s", len(part), from, text, d)
		}
		chunks = append(chunks, got...)
	}
	rest := c.End()
	if d := differ(withRest(nil, rest), want); d != "" {
		t.Fatalf("End of %.10q: %s", text, d)
	}
	return withRest(chunks, rest)
}

// withRest: chunks, and what End told behind them, if it is anything.
func withRest(chunks []string, rest string) []string {
	if rest == "" {
		return chunks
	}
	return append(chunks, rest)
}

// inSteps: a text in parts of n bytes.
func inSteps(text string, n int) []string {
	var parts []string
	for at := 0; at < len(text); at += n {
		parts = append(parts, text[at:min(at+n, len(text))])
	}
	return parts
}

// inAny: a text in parts of up to n bytes, empty ones among them.
func inAny(source *rand.Rand, text string, n int) []string {
	parts := []string{""}
	for text != "" {
		k := min(source.Intn(n+1), len(text))
		parts = append(parts, text[:k])
		text = text[k:]
	}
	return append(parts, "", "")
}

// P3.2: whatever the parts, the chunks are those of Cut; one cutter is fed all texts, one behind the other's End.
func TestChunksAreTheSameHoweverFed(t *testing.T) {
	source := rand.New(rand.NewSource(6))
	c := New()
	for _, text := range texts() {
		want := slowCut(text)
		ways := [][]string{nil, {text}, {"", text}, {text, ""}, inAny(source, text, 3), inAny(source, text, 40), inAny(source, text, 300)}
		if text != "" {
			ways = ways[1:]
		}
		for _, n := range []int{1, 2, 3, 7, 8, 9, 15, 16, 17, 31, 33, 100, 127, 128, 129, 256, 1000} {
			ways = append(ways, inSteps(text, n))
		}
		for _, parts := range ways {
			if d := differ(fed(t, c, text, parts), want); d != "" {
				t.Fatalf("%d bytes (%.10q) in %d parts: %s", len(text), text, len(parts), d)
			}
		}
	}
}

// P3.2: a text in two parts, parted at each of its places.
func TestChunksAreTheSameWhereverParted(t *testing.T) {
	source := rand.New(rand.NewSource(7))
	for _, text := range []string{
		someText(source, 400), withCells(source, 400, never), strings.Repeat("\x00", 400),
		withCells(source, 400, func(k int) bool { return k%50 == 0 }),
	} {
		for k := range len(text) + 1 {
			fed(t, New(), text, []string{text[:k], text[k:]})
			fed(t, New(), text, []string{text[:k], "", text[k:]})
		}
	}
}

// P3.2: parts that end just where a chunk ends, or a byte ahead of it or behind it.
func TestPartsMayEndWhereChunksEnd(t *testing.T) {
	for _, text := range texts() {
		chunks := slowCut(text)
		fed(t, New(), text, chunks)
		for _, aside := range []int{-1, 1} {
			var parts []string
			from, end := 0, 0
			for _, chunk := range chunks {
				end += len(chunk)
				to := min(max(end+aside, from), len(text))
				parts = append(parts, text[from:to])
				from = to
			}
			fed(t, New(), text, append(parts, text[from:]))
		}
	}
}

// P3.2: a chunk that ends just at a part's end is told at once, and End has nothing then.
func TestChunkAtPartsEndIsToldAtOnce(t *testing.T) {
	source := rand.New(rand.NewSource(8))
	for _, text := range []string{
		strings.Repeat("\x00", 16), withCells(source, 128, never), withCells(source, 128, func(k int) bool { return k == 128 }),
		withCells(source, 77, func(k int) bool { return k == 77 }), withCells(source, 16, func(k int) bool { return true }),
	} {
		c := New()
		if got := c.Feed(text); len(got) != 1 || got[0] != text {
			t.Errorf("Feed of %d bytes: %q", len(text), got)
		}
		if rest := c.End(); rest != "" {
			t.Errorf("End behind %d bytes: %q", len(text), rest)
		}
	}
}

// P3.2: put together the chunks are the text; all but the last one have 16 to 128 bytes, the last one 1 to 128.
func TestChunksPutTogetherAreTheText(t *testing.T) {
	for _, text := range texts() {
		chunks := Cut(text)
		if strings.Join(chunks, "") != text {
			t.Errorf("%d bytes (%.10q): not put together again", len(text), text)
		}
		for i, chunk := range chunks {
			least := 16
			if i == len(chunks)-1 {
				least = 1
			}
			if len(chunk) < least || len(chunk) > 128 {
				t.Errorf("%d bytes (%.10q): chunk %d of %d has %d bytes", len(text), text, i, len(chunks), len(chunk))
			}
		}
	}
}

// P3.3: behind each chunk's end the rest is cut as a text of its own.
func TestRestIsCutAsTextOfItsOwn(t *testing.T) {
	for _, text := range texts() {
		chunks := Cut(text)
		if len(text) > 3000 {
			chunks = chunks[:40]
			text = strings.Join(chunks, "")
			chunks = Cut(text)
		}
		rest := text
		for i, chunk := range chunks {
			if d := differ(Cut(rest), chunks[i:]); d != "" {
				t.Fatalf("rest of %d bytes of %.10q: %s", len(rest), text, d)
			}
			rest = rest[len(chunk):]
		}
	}
}

// P3.3: whatever stands behind a chunk that has ended, the chunk is the same, and so are those ahead of it.
func TestWhatStandsBehindPlaysNoPart(t *testing.T) {
	source := rand.New(rand.NewSource(9))
	behind := []string{"", "\x00", "a", strings.Repeat("\x00", 200), strings.Repeat("\xff", 200), withCells(source, 200, never), someText(source, 500)}
	for _, text := range texts() {
		chunks := Cut(text)
		if len(chunks) == 0 || len(chunks) > 100 {
			continue
		}
		if !ended(chunks[len(chunks)-1]) {
			chunks = chunks[:len(chunks)-1]
		}
		ahead := strings.Join(chunks, "")
		for _, other := range behind {
			want := append(slices.Clone(chunks), slowCut(other)...)
			if d := differ(Cut(ahead+other), want); d != "" {
				t.Fatalf("%.10q, and %d bytes behind it: %s", text, len(other), d)
			}
		}
	}
}

// P3.3: what stands behind a chunk that ended at 128 bytes, and its own bytes, make no window together.
func TestWindowDoesNotReachAheadOfChunk(t *testing.T) {
	source := rand.New(rand.NewSource(10))
	full := withCells(source, 128, never)
	for range 200 {
		next := withCells(source, 128, never)
		if got := Cut(full + next + full); !slices.Equal(lengths(got), []int{128, 128, 128}) {
			t.Fatalf("chunks of %v bytes", lengths(got))
		}
		if got := Cut(full + strings.Repeat("\x00", 33)); !slices.Equal(lengths(got), []int{128, 16, 16, 1}) {
			t.Fatalf("chunks of %v bytes", lengths(got))
		}
	}
}

// P3.3: a byte more ahead of a text: from some place on the chunks are those of the text.
func TestChunksAreSoonTheSameBehindByteMore(t *testing.T) {
	text := someText(rand.New(rand.NewSource(11)), 10000)
	one, other := Cut(text), Cut("x"+text)
	same := 0
	for same < min(len(one), len(other)) && one[len(one)-1-same] == other[len(other)-1-same] {
		same++
	}
	if same < len(one)-20 {
		t.Errorf("of %d chunks %d are the same", len(one), same)
	}
}

// P3.1, End: at once, twice, and behind parts; the cutter is as new then.
func TestEndLeavesCutterAsNew(t *testing.T) {
	source := rand.New(rand.NewSource(12))
	c := New()
	for range 2 {
		if rest := c.End(); rest != "" {
			t.Errorf("End at once: %q", rest)
		}
	}
	for _, n := range edges() {
		text := withCells(source, n, never)
		c.Feed(text)
		if rest, want := c.End(), text[n-n%128:]; rest != want {
			t.Errorf("End behind %d bytes: %q, not %q", n, rest, want)
		}
		if rest := c.End(); rest != "" {
			t.Errorf("End twice behind %d bytes: %q", n, rest)
		}
		if got := c.Feed(""); len(got) != 0 {
			t.Errorf("Feed of nothing behind End: %q", got)
		}
		next := someText(source, 300)
		fed(t, c, next, []string{next})
	}
}

// P3.1, End: of what was fed ahead of it neither bytes nor their number nor their sum play a part.
func TestFeedBehindEndBeginsAnew(t *testing.T) {
	source := rand.New(rand.NewSource(13))
	for n := range 130 {
		c := New()
		c.Feed(withCells(source, n, never))
		c.End()
		for _, text := range []string{strings.Repeat("\x00", 40), withCells(source, 150, never), withCells(source, 40, func(k int) bool { return k == 16 })} {
			if d := differ(fed(t, c, text, inSteps(text, 5)), slowCut(text)); d != "" {
				t.Fatalf("behind End of %d bytes: %s", n, d)
			}
		}
	}
}

// P3.1, R2: a nil cutter tells nothing, however often it is asked.
func TestNilCutterTellsNothing(t *testing.T) {
	var none *Cutter
	for range 2 {
		for _, part := range []string{"", "a", strings.Repeat("\x00", 16), strings.Repeat("\x00", 1000)} {
			if got := none.Feed(part); len(got) != 0 {
				t.Errorf("Feed of %d bytes: %q", len(part), got)
			}
		}
		if rest := none.End(); rest != "" {
			t.Errorf("End: %q", rest)
		}
	}
}

// P3.1, New: two cutters, fed by turns, know nothing of each other; nor does a copy of one.
func TestCuttersAreApart(t *testing.T) {
	source := rand.New(rand.NewSource(14))
	a, b := New(), New()
	one, two := someText(source, 600), withCells(source, 600, never)
	var ones, twos []string
	for k := range 600 {
		ones = append(ones, a.Feed(one[k:k+1])...)
		twos = append(twos, b.Feed(two[k:k+1])...)
	}
	ones, twos = withRest(ones, a.End()), withRest(twos, b.End())
	if d := differ(ones, slowCut(one)) + differ(twos, slowCut(two)); d != "" {
		t.Error(d)
	}
	a.Feed(two[:100]) // no chunk ends here
	copied := *a
	copied.Feed(one[:20])
	if d := differ(a.Feed(two[100:128]), []string{two[:128]}); d != "" {
		t.Errorf("behind a copy: %s", d)
	}
}

// The zero value is a cutter to which nothing was fed.
func TestZeroCutterIsNew(t *testing.T) {
	text := someText(rand.New(rand.NewSource(15)), 1000)
	var c Cutter
	if c != *New() {
		t.Error("not as New tells it")
	}
	fed(t, &c, text, inSteps(text, 11))
	if c != *New() {
		t.Error("not as new behind End")
	}
}

// R4: what is answered shares no memory with what was handed in, and what was told stays as it is.
func TestAnswersAreTheCallersOwn(t *testing.T) {
	text := someText(rand.New(rand.NewSource(16)), 5000) + "the end"
	begin := uintptr(unsafe.Pointer(unsafe.StringData(text)))
	within := func(s string) bool {
		at := uintptr(unsafe.Pointer(unsafe.StringData(s)))
		return s != "" && at >= begin && at < begin+uintptr(len(text))
	}
	want := slowCut(text)
	c := New()
	first := c.Feed(text[:2500])
	kept := slices.Clone(first)
	clear(first)
	chunks := withRest(append(kept, c.Feed(text[2500:])...), c.End())
	if d := differ(chunks, want); d != "" {
		t.Error(d)
	}
	if slices.ContainsFunc(chunks, within) || slices.ContainsFunc(Cut(text), within) {
		t.Error("a chunk is a part of what was handed in")
	}
}

// R7: asked again, each call answers the same.
func TestCutAnswersTheSameAgain(t *testing.T) {
	for _, text := range texts() {
		first := Cut(text)
		if d := differ(Cut(text), first) + differ(fed(t, New(), text, []string{text}), first); d != "" {
			t.Errorf("%d bytes (%.10q): two answers: %s", len(text), text, d)
		}
	}
}

// P0: calls in any order, and long texts: each call ends, and none panics.
func TestCallsEndInAnyOrder(t *testing.T) {
	done := make(chan bool)
	go func() {
		defer close(done)
		source := rand.New(rand.NewSource(17))
		c := New()
		since := ""
		for range 20000 {
			if source.Intn(20) == 0 {
				chunks := slowCut(since)
				want := ""
				if len(chunks) > 0 && !ended(chunks[len(chunks)-1]) {
					want = chunks[len(chunks)-1]
				}
				if rest := c.End(); rest != want {
					t.Errorf("End: %q, not %q", rest, want)
				}
				since = ""
				continue
			}
			part := someText(source, source.Intn(60))
			since += part
			c.Feed(part)
		}
		long := strings.Repeat(someText(source, 1000), 1<<12)
		if strings.Join(Cut(long), "") != long {
			t.Error("a long text is not put together again")
		}
		if n := len(Cut(strings.Repeat("\x00", 1<<22))); n != 1<<18 {
			t.Errorf("%d chunks of bytes 0", n)
		}
	}()
	select {
	case <-done:
	case <-time.After(time.Minute):
		t.Fatal("a call doesn't end")
	}
}
