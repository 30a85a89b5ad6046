package pack_test

import (
	"cmp"
	"math/rand"
	"slices"
	"strings"
	"testing"

	"cooperage/api"
	"cooperage/pack"
)

// P10.1, Write and Read: drawn records, and what is nearly one, as in the document's words; each the other's way back.
func TestDrawnRecords(t *testing.T) {
	source := rand.New(rand.NewSource(2))
	right := 0
	for range 60000 {
		kinds := drawnKinds(source)
		fields := drawnFields(source, kinds)
		want, ok := written(kinds, fields)
		writes(t, kinds, fields, want, ok)
		if ok {
			right++
			reads(t, kinds, want, fields, true)
		}
	}
	if right < 20000 {
		t.Errorf("%d records alone", right)
	}
}

// P10.1, Read: drawn bytes, and a record's with a few changed, as in the document's words; Write of what was read gives them back.
func TestDrawnBytes(t *testing.T) {
	source := rand.New(rand.NewSource(3))
	right := 0
	for range 30000 {
		kinds := drawnKinds(source)
		bytes := drawnText(source, source.Intn(24))
		if whole, ok := written(kinds, drawnFields(source, kinds)); ok && source.Intn(4) > 0 {
			bytes = changed(source, whole)
		}
		want, ok := read(t, kinds, bytes)
		reads(t, kinds, bytes, want, ok)
		if ok {
			right++
			writes(t, kinds, want, bytes, true)
		}
	}
	if right < 5000 {
		t.Errorf("%d records alone", right)
	}
}

// changed: a text with one byte changed, left out or put in, or its end cut off, or as it is.
func changed(source *rand.Rand, text string) string {
	at := source.Intn(len(text) + 1)
	one := drawnText(source, 1)
	switch source.Intn(6) {
	case 0:
		return text[:at]
	case 1:
		return text[:at] + one + text[at:]
	case 2:
		return text[:at] + text[min(at+1, len(text)):]
	case 3:
		return text[:at] + one + text[min(at+1, len(text)):]
	case 4:
		return text + drawnText(source, 1+source.Intn(9))
	}
	return text
}

// P10.1, Read: all texts of up to five bytes 0, 1, 2 for all kinds of up to three letters: those are records' bytes that Write tells of some record, and no others.
func TestAllShortRecords(t *testing.T) {
	texts := textsOf("\x00\x01\x02", 5)
	for _, kinds := range textsOf(letters, 3) {
		for _, bytes := range texts {
			want, ok := read(t, kinds, bytes)
			reads(t, kinds, bytes, want, ok)
			if ok {
				writes(t, kinds, want, bytes, true)
			}
		}
	}
}

// inOrder: that parts stand in order as their texts, whatever is behind them.
func inOrder(t *testing.T, a, b, behindA, behindB string) {
	t.Helper()
	partA, okA := pack.Part(a)
	partB, okB := pack.Part(b)
	if !okA || !okB {
		t.Fatalf("%q, %q: no parts", a, b)
	}
	want := cmp.Compare(a, b)
	if a == b {
		want = cmp.Compare(behindA, behindB)
	}
	if got := cmp.Compare(partA+behindA, partB+behindB); got != want {
		t.Fatalf("%q, %q behind parts of %q, %q: %d, not %d", behindA, behindB, a, b, got, want)
	}
}

// P10.2: all texts of up to three bytes, the least, the greatest and two side by side, with several things behind.
func TestShortPartsStandInOrder(t *testing.T) {
	texts := textsOf("\x01\x02a\xff", 3)
	behind := []string{"", "\x00", "\x00\x00", "\x01", "a", "\xff", "\xff\xff\xff"}
	for _, a := range texts {
		for _, b := range texts {
			for _, behindA := range behind {
				for _, behindB := range behind {
					inOrder(t, a, b, behindA, behindB)
				}
			}
		}
	}
}

// drawnPart: a text without a byte 0; often one that another one begins with, or that begins with it.
func drawnPart(source *rand.Rand, others []string) string {
	text := ""
	for range source.Intn(12) {
		text += string([]byte{byte(1 + source.Intn(255))})
	}
	if len(others) == 0 || source.Intn(3) == 0 {
		return text
	}
	other := others[source.Intn(len(others))]
	return other[:source.Intn(len(other)+1)] + text[:source.Intn(len(text)+1)]
}

// P10.2: drawn texts, among them beginnings of one another, with anything behind.
func TestDrawnPartsStandInOrder(t *testing.T) {
	source := rand.New(rand.NewSource(4))
	var texts []string
	for range 400 {
		texts = append(texts, drawnPart(source, texts))
	}
	beginnings := 0
	for _, a := range texts {
		for _, b := range texts {
			if a != b && strings.HasPrefix(a, b) {
				beginnings++
			}
			inOrder(t, a, b, drawnText(source, source.Intn(4)), drawnText(source, source.Intn(4)))
		}
	}
	if beginnings < 1000 {
		t.Errorf("%d beginnings alone", beginnings)
	}
}

// P10.2: keys of several parts and a number that falls stand as these, one by one; Cut and Fell tell them again.
func TestKeysOfPartsStandInOrder(t *testing.T) {
	type things struct {
		bucket, item string
		number       uint64
	}
	source := rand.New(rand.NewSource(5))
	var all []things
	keys := map[things]string{}
	texts := textsOf("\x01b\xff", 3)
	for range 300 {
		one := things{texts[source.Intn(len(texts))], texts[source.Intn(len(texts))], source.Uint64() >> source.Intn(64)}
		bucket, _ := pack.Part(one.bucket)
		item, _ := pack.Part(one.item)
		all, keys[one] = append(all, one), bucket+item+pack.Falls(one.number)
	}
	for _, a := range all {
		bucket, behind, ok := pack.Cut(keys[a])
		item, fallen, okToo := pack.Cut(behind)
		number, okAtAll := pack.Fell(fallen)
		if a != (things{bucket, item, number}) || !ok || !okToo || !okAtAll {
			t.Fatalf("%v: %q, %q, %d", a, bucket, item, number)
		}
		for _, b := range all {
			want := cmp.Or(cmp.Compare(a.bucket, b.bucket), cmp.Compare(a.item, b.item), cmp.Compare(b.number, a.number))
			if got := cmp.Compare(keys[a], keys[b]); got != want {
				t.Fatalf("%v, %v: %d, not %d", a, b, got, want)
			}
		}
	}
}

// P0, R7: all calls end at all arguments, none panics, and asked again each answers the same; with false nothing is handed out.
func TestCallsEndAtAllArguments(t *testing.T) {
	source := rand.New(rand.NewSource(6))
	for range 30000 {
		kinds, text := drawnText(source, source.Intn(6)), drawnText(source, source.Intn(20))
		if source.Intn(2) == 0 {
			kinds = drawnKinds(source)
		}
		fields := make([]api.Field, source.Intn(6))
		for i := range fields {
			fields[i] = api.Field{N: source.Uint64() >> source.Intn(65), S: drawnText(source, source.Intn(3))}
		}
		bytes, ok := pack.Write(kinds, fields...)
		again, okAgain := pack.Write(kinds, fields...)
		if bytes != again || ok != okAgain || !ok && bytes != "" || ok && !pack.Right(kinds) {
			t.Fatalf("Write(%s): %s", told(kinds, fields), told(bytes, ok, again, okAgain))
		}
		record, ok := pack.Read(kinds, text)
		recordAgain, okAgain := pack.Read(kinds, text)
		if !slices.Equal(record, recordAgain) || ok != okAgain || !ok && len(record) > 0 || ok && !pack.Right(kinds) {
			t.Fatalf("Read(%s): %s", told(kinds, text), told(record, ok))
		}
		part, ok := pack.Part(text)
		if want := !strings.Contains(text, "\x00"); ok != want || ok && part != text+"\x00" || !ok && part != "" {
			t.Fatalf("Part(%q): %q, %v", text, part, ok)
		}
		first, behind, ok := pack.Cut(text)
		if want := strings.Contains(text, "\x00"); ok != want || ok && first+"\x00"+behind != text || strings.Contains(first, "\x00") || !ok && first+behind != "" {
			t.Fatalf("Cut(%q): %q, %q, %v", text, first, behind, ok)
		}
		number, ok := pack.Fell(text)
		if ok != (len(text) == 8) || !ok && number != 0 {
			t.Fatalf("Fell(%q): %d, %v", text, number, ok)
		}
	}
}

// P0: kinds that the bytes or the fields are far too few for, and as many as they are for.
func TestManyKinds(t *testing.T) {
	const many = 1 << 22
	for _, letter := range []string{"n", "h", "b", "t"} {
		kinds := strings.Repeat(letter, many)
		reads(t, kinds, "", nil, false)
		reads(t, kinds+"r", "\x00\x00\x00\x00\x00\x00\x00\x00", nil, false)
		writes(t, kinds, nil, "", false)
		writes(t, kinds, []api.Field{{}}, "", false)
	}
	kinds, bytes := strings.Repeat("b", many)+"r", strings.Repeat("\x07", many)+"rest"
	record, ok := pack.Read(kinds, bytes)
	if !ok || len(record) != many+1 || record[0] != n(7) || record[many-1] != n(7) || record[many] != s("rest") {
		t.Fatalf("%d fields, %v", len(record), ok)
	}
	if got, ok := pack.Write(kinds, record...); got != bytes || !ok {
		t.Fatalf("%d bytes, %v", len(got), ok)
	}
}
