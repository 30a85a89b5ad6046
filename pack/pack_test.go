package pack_test

import (
	"math"
	"math/rand"
	"slices"
	"strings"
	"testing"
	"unsafe"

	"cooperage/api"
	"cooperage/pack"
)

// P10.1, Right: no letters, each one, r at the end, and all that are none.
func TestRightTellsKinds(t *testing.T) {
	for _, kinds := range []string{
		"", "n", "h", "b", "t", "r", "nn", "tt", "nr", "tr", "nhbt", "nhbtr", "tbhnr",
		strings.Repeat("n", 1000), strings.Repeat("t", 1000) + "r",
	} {
		if !pack.Right(kinds) {
			t.Errorf("%.20q: aren't kinds", kinds)
		}
	}
	for _, kinds := range []string{
		"x", "N", "R", "1", " ", "\x00", "\xff", "é", "nx", "xn", "n t", "n,t", "nhbx", "n\x00", "\x00r", "ñ", "ⓝ",
		"rr", "rn", "rh", "rb", "rt", "rx", "nrt", "trr", "rtr",
		strings.Repeat("n", 1000) + "x", "r" + strings.Repeat("n", 1000),
	} {
		if pack.Right(kinds) {
			t.Errorf("%.20q: are kinds", kinds)
		}
	}
}

// P10.1, Right: all texts of up to two bytes, and of up to five letters of kinds and one that is none.
func TestRightTellsAllShortTexts(t *testing.T) {
	held := func(kinds string) {
		t.Helper()
		if got := pack.Right(kinds); got != areKinds.MatchString(kinds) {
			t.Fatalf("%q: %v", kinds, got)
		}
	}
	for one := range 256 {
		held(string([]byte{byte(one)}))
		for two := range 256 {
			held(string([]byte{byte(one), byte(two)}))
		}
	}
	for _, kinds := range textsOf(letters+"z", 5) {
		held(kinds)
	}
}

// textsOf: all texts of up to so many of those bytes.
func textsOf(bytes string, longest int) []string {
	all := []string{""}
	for from, size := 0, 1; size <= longest; size++ {
		shorter := all[from:]
		from = len(all)
		for _, text := range shorter {
			for i := range len(bytes) {
				all = append(all, text+bytes[i:i+1])
			}
		}
	}
	return all
}

// P10.1, Write and Read: the document's example, and records of each kind and of several, written by hand.
func TestRecordsAndTheirBytesByHand(t *testing.T) {
	holds(t, "bt", "\x07\x00\x02\x61\x62", n(7), s("ab"))
	holds(t, "", "")
	holds(t, "n", "\x00\x00\x00\x00\x00\x00\x00\x00", n(0))
	holds(t, "n", "\x00\x00\x00\x00\x00\x00\x00\x01", n(1))
	holds(t, "n", "\x01\x02\x03\x04\x05\x06\x07\x08", n(0x0102030405060708))
	holds(t, "n", "\xff\xff\xff\xff\xff\xff\xff\xff", n(math.MaxUint64))
	holds(t, "h", "\x00\x00\x00\x00", n(0))
	holds(t, "h", "\x01\x02\x03\x04", n(0x01020304))
	holds(t, "h", "\xff\xff\xff\xff", n(math.MaxUint32))
	holds(t, "b", "\x00", n(0))
	holds(t, "b", "\xff", n(255))
	holds(t, "t", "\x00\x00", s(""))
	holds(t, "t", "\x00\x01\x00", s("\x00"))
	holds(t, "t", "\x00\x05hello", s("hello"))
	holds(t, "t", "\x01\x02"+strings.Repeat("x", 258), s(strings.Repeat("x", 258)))
	holds(t, "r", "", s(""))
	holds(t, "r", "\x00", s("\x00"))
	holds(t, "r", "hello", s("hello"))
	holds(t, "bb", "\x01\x02", n(1), n(2))
	holds(t, "tt", "\x00\x00\x00\x02ab", s(""), s("ab"))
	holds(t, "tt", "\x00\x02ab\x00\x00", s("ab"), s(""))
	holds(t, "tr", "\x00\x02abcd", s("ab"), s("cd"))
	holds(t, "tr", "\x00\x02ab", s("ab"), s(""))
	holds(t, "bhn", "\x01\x00\x00\x00\x02\x00\x00\x00\x00\x00\x00\x00\x03", n(1), n(2), n(3))
	holds(t, "nhbtr", "\x00\x00\x00\x00\x00\x00\x01\x00\x00\x00\x02\x00\x09\x00\x01ab\x00", n(256), n(512), n(9), s("a"), s("b\x00"))
}

// P10.1, Write: a number at the edges of each kind, and past them.
func TestWriteRefusesNumbersPastTheirKinds(t *testing.T) {
	for _, c := range []struct {
		kinds string
		n     uint64
		want  string
	}{
		{"b", 254, "\xfe"}, {"b", 255, "\xff"}, {"b", 256, ""}, {"b", 257, ""}, {"b", 512, ""}, {"b", 1 << 32, ""}, {"b", math.MaxUint64, ""},
		{"h", 255, "\x00\x00\x00\xff"}, {"h", 256, "\x00\x00\x01\x00"},
		{"h", 1<<32 - 1, "\xff\xff\xff\xff"}, {"h", 1 << 32, ""}, {"h", 1<<32 + 1, ""}, {"h", 1 << 33, ""}, {"h", math.MaxUint64, ""},
		{"n", 1<<32 - 1, "\x00\x00\x00\x00\xff\xff\xff\xff"}, {"n", 1 << 32, "\x00\x00\x00\x01\x00\x00\x00\x00"},
		{"n", 1 << 63, "\x80\x00\x00\x00\x00\x00\x00\x00"}, {"n", math.MaxUint64, "\xff\xff\xff\xff\xff\xff\xff\xff"},
	} {
		writes(t, c.kinds, []api.Field{n(c.n)}, c.want, c.want != "")
	}
	for _, x := range numbers() {
		for _, kinds := range []string{"n", "h", "b", "t", "r"} {
			want, ok := written(kinds, []api.Field{n(x)})
			writes(t, kinds, []api.Field{n(x)}, want, ok)
		}
	}
}

// P10.1, Write: a number with a text, a text with a number, and both at once, of each kind, at each place.
func TestWriteRefusesFieldsOfOtherKinds(t *testing.T) {
	for _, kind := range []string{"n", "h", "b"} {
		for _, f := range []api.Field{s("a"), s("\x00"), s(strings.Repeat("a", 70000)), {N: 1, S: "a"}} {
			writes(t, kind, []api.Field{f}, "", false)
			writes(t, kind+"b", []api.Field{f, n(1)}, "", false)
			writes(t, "b"+kind, []api.Field{n(1), f}, "", false)
		}
	}
	for _, kind := range []string{"t", "r"} {
		for _, f := range []api.Field{n(1), n(math.MaxUint64), {N: 1, S: "a"}, {N: 256, S: ""}} {
			writes(t, kind, []api.Field{f}, "", false)
			writes(t, "t"+kind, []api.Field{s("a"), f}, "", false)
		}
	}
	writes(t, "tb", []api.Field{n(1), s("a")}, "", false)
	writes(t, "bt", []api.Field{s("a"), n(1)}, "", false)
}

// P10.1, Write: texts at the greatest length and past it.
func TestTextsOfAllLengths(t *testing.T) {
	for _, size := range []int{0, 1, 255, 256, 257, 65279, 65280, 65534, 65535} {
		text := strings.Repeat("ab", 32768)[:size]
		head := string([]byte{byte(size >> 8), byte(size)})
		holds(t, "t", head+text, s(text))
		holds(t, "tt", head+text+head+text, s(text), s(text))
		holds(t, "btr", "\x05"+head+text+text, n(5), s(text), s(text))
		holds(t, "r", text, s(text))
	}
	for _, size := range []int{65536, 65537, 65538, 1 << 17, 1 << 20} {
		text := strings.Repeat("a", size)
		writes(t, "t", []api.Field{s(text)}, "", false)
		writes(t, "tr", []api.Field{s(text), s("")}, "", false)
		writes(t, "bt", []api.Field{n(1), s(text)}, "", false)
		holds(t, "r", text, s(text))
		holds(t, "br", "\x01"+text, n(1), s(text))
		holds(t, "tr", "\x00\x01b"+text, s("b"), s(text))
	}
}

// P10.1, Write and Read: kinds that are none, and more fields than kinds, and fewer.
func TestCallsRefuseWrongKindsAndNumbersOfFields(t *testing.T) {
	for _, kinds := range []string{"x", "bx", "xb", "rb", "rr", "rt", "brb", "B", "\x00", "b\xff"} {
		for _, fields := range [][]api.Field{nil, {n(1)}, {n(0)}, {s("")}, {n(1), n(1)}, {s(""), s("")}, {{}, {}}, {{}, {}, {}}} {
			writes(t, kinds, fields, "", false)
		}
		for _, bytes := range []string{"", "\x00", "\x01\x01", "\x00\x00", "\x00\x00\x00", strings.Repeat("\x00", 40)} {
			reads(t, kinds, bytes, nil, false)
		}
	}
	for _, kinds := range []string{"", "n", "h", "b", "t", "r", "bb", "tr", "nhbtr"} {
		for count := range 8 {
			fields := make([]api.Field, count)
			want, ok := written(kinds, fields)
			if ok != (count == len(kinds)) {
				t.Fatalf("%s, %d", kinds, count)
			}
			writes(t, kinds, fields, want, ok)
		}
	}
	writes(t, "", []api.Field{}, "", true)
	writes(t, "", []api.Field{{}}, "", false)
	writes(t, "b", nil, "", false)
}

// P10.1, Read: bytes that end in the middle of a number, of a length and of a text, bytes left over, and none.
func TestReadRefusesBytesOfNoRecord(t *testing.T) {
	for _, c := range []struct {
		kinds, text string
		least       int
	}{
		{"n", "\x01\x02\x03\x04\x05\x06\x07\x08", 8},
		{"h", "\x01\x02\x03\x04", 4},
		{"b", "\x01", 1},
		{"t", "\x00\x03abc", 5},
		{"nhb", "\x01\x02\x03\x04\x05\x06\x07\x08\x01\x02\x03\x04\x09", 13},
		{"tt", "\x00\x00\x00\x01a", 5},
		{"tbt", "\x00\x02\x00\x01\x05\x00\x01a", 8},
		{"ttr", "\x00\x02ab\x00\x01aall that is left", 7},
		{"nhbtr", "\x01\x02\x03\x04\x05\x06\x07\x08\x01\x02\x03\x04\x09\x00\x02abrest", 17},
	} {
		for end := range len(c.text) + 1 {
			got, ok := pack.Read(c.kinds, c.text[:end])
			if ok != (end >= c.least) || !ok && got != nil {
				t.Errorf("%s, %q: %s", c.kinds, c.text[:end], told(got, ok))
			}
		}
		if c.least < len(c.text) {
			continue
		}
		for _, more := range []string{"\x00", "a", "\x00\x00", "\xff\xff\xff\xff\xff\xff\xff\xff"} {
			reads(t, c.kinds, c.text+more, nil, false)
		}
	}
	reads(t, "", "\x00", nil, false)
	reads(t, "t", "\xff\xff", nil, false)
	reads(t, "t", "\xff\xff"+strings.Repeat("a", 65534), nil, false)
	reads(t, "t", "\xff\xff"+strings.Repeat("a", 65536), nil, false)
	reads(t, "r", "", []api.Field{{}}, true)
	for _, kinds := range []string{"n", "h", "b", "t", "nr", "hr", "br", "tr", "bb"} {
		reads(t, kinds, "", nil, false)
	}
}

// P10.1, Part and Cut: texts with a byte 0 at each place, and without one.
func TestPartIsItsTextAndAByteNought(t *testing.T) {
	for _, text := range []string{"", "a", "key", "\x01", "\xff", "\x01\xff", "\xff\xff\xff", "é", "0", strings.Repeat("k", 70000)} {
		if got, ok := pack.Part(text); got != text+"\x00" || !ok {
			t.Errorf("Part(%.20q): %.20q, %v", text, got, ok)
		}
		for _, behind := range []string{"", "\x00", "a", "more", "more\x00", "\x00\x00", "\xff"} {
			if got, left, ok := pack.Cut(text + "\x00" + behind); got != text || left != behind || !ok {
				t.Errorf("Cut of the part of %.20q and %q: %.20q, %.20q, %v", text, behind, got, left, ok)
			}
		}
		if got, left, ok := pack.Cut(text); got != "" || left != "" || ok {
			t.Errorf("Cut(%.20q): %.20q, %.20q, %v", text, got, left, ok)
		}
	}
	for _, text := range []string{"\x00", "\x00a", "a\x00b", "a\x00", "\x00\x00", "key\x00\x00", strings.Repeat("k", 70000) + "\x00"} {
		if got, ok := pack.Part(text); got != "" || ok {
			t.Errorf("Part(%.20q): %.20q, %v", text, got, ok)
		}
	}
	for one := range 256 {
		text := string([]byte{byte(one)})
		if got, ok := pack.Part(text); ok != (one != 0) || ok && got != text+"\x00" || !ok && got != "" {
			t.Errorf("Part(%q): %q, %v", text, got, ok)
		}
	}
}

// P10.1, Cut: of several parts, one behind the other, each comes in its turn.
func TestCutGoesFromPartToPart(t *testing.T) {
	texts := []string{"a", "", "key", "\x01\xff", "", "last"}
	key := ""
	for _, text := range texts {
		part, ok := pack.Part(text)
		if !ok {
			t.Fatal(text)
		}
		key += part
	}
	key += "left"
	for _, text := range texts {
		got, behind, ok := pack.Cut(key)
		if got != text || !ok || text+"\x00"+behind != key {
			t.Fatalf("Cut(%q): %q, %q, %v", key, got, behind, ok)
		}
		key = behind
	}
	if got, behind, ok := pack.Cut(key); key != "left" || got != "" || behind != "" || ok {
		t.Fatalf("Cut(%q): %q, %q, %v", key, got, behind, ok)
	}
}

// P10.1, Falls and Fell: known ones, each the other's way back, and of a greater number they stand below.
func TestNumbersThatFall(t *testing.T) {
	for x, want := range map[uint64]string{
		0:                  "\xff\xff\xff\xff\xff\xff\xff\xff",
		1:                  "\xff\xff\xff\xff\xff\xff\xff\xfe",
		256:                "\xff\xff\xff\xff\xff\xff\xfe\xff",
		1<<63 - 1:          "\x80\x00\x00\x00\x00\x00\x00\x00",
		1 << 63:            "\x7f\xff\xff\xff\xff\xff\xff\xff",
		math.MaxUint64:     "\x00\x00\x00\x00\x00\x00\x00\x00",
		math.MaxUint64 - 1: "\x00\x00\x00\x00\x00\x00\x00\x01",
		0x0102030405060708: "\xfe\xfd\xfc\xfb\xfa\xf9\xf8\xf7",
	} {
		if got := pack.Falls(x); got != want {
			t.Errorf("Falls(%d): %q, not %q", x, got, want)
		}
		if got, ok := pack.Fell(want); got != x || !ok {
			t.Errorf("Fell(%q): %d, %v, not %d", want, got, ok, x)
		}
	}
	source := rand.New(rand.NewSource(1))
	all := numbers()
	for range 300 {
		all = append(all, source.Uint64()>>source.Intn(64))
	}
	for _, x := range all {
		if got, ok := pack.Fell(pack.Falls(x)); got != x || !ok || len(pack.Falls(x)) != 8 {
			t.Fatalf("%d: %q, back %d, %v", x, pack.Falls(x), got, ok)
		}
		for _, y := range all {
			if (x > y) != (pack.Falls(x) < pack.Falls(y)) {
				t.Fatalf("%d, %d: %q, %q", x, y, pack.Falls(x), pack.Falls(y))
			}
		}
		text := drawnText(source, 8)
		if got, ok := pack.Fell(text); !ok || pack.Falls(got) != text {
			t.Fatalf("Fell(%q): %d, %v", text, got, ok)
		}
	}
	for size := range 40 {
		for _, byteOf := range []string{"\x00", "\xff", "a"} {
			if got, ok := pack.Fell(strings.Repeat(byteOf, size)); ok != (size == 8) || !ok && got != 0 {
				t.Errorf("Fell of %d bytes: %d, %v", size, got, ok)
			}
		}
	}
}

// shares: whether two texts have memory in common.
func shares(a, b string) bool {
	from, to := uintptr(unsafe.Pointer(unsafe.StringData(a))), uintptr(unsafe.Pointer(unsafe.StringData(b)))
	return a != "" && b != "" && from < to+uintptr(len(b)) && to < from+uintptr(len(a))
}

// R4: what is handed in is not changed and not kept; what is answered is new memory.
func TestCallsShareNothing(t *testing.T) {
	fields := []api.Field{n(7), s("some text"), s("all that is left")}
	taken := slices.Clone(fields)
	bytes, ok := pack.Write("btr", taken...)
	if !ok || !slices.Equal(taken, fields) || shares(bytes, fields[1].S) || shares(bytes, fields[2].S) {
		t.Fatalf("%q, %v", bytes, taken)
	}
	taken[0], taken[1] = n(8), s("another one")
	again, _ := pack.Write("btr", fields...)
	if again != bytes || shares(again, bytes) {
		t.Fatalf("%q, %q", again, bytes)
	}
	if alone, _ := pack.Write("r", fields[2]); shares(alone, fields[2].S) {
		t.Fatal("Write of a text that is all there is shares it")
	}

	first, _ := pack.Read("btr", bytes)
	second, _ := pack.Read("btr", bytes)
	for i := range first {
		if !slices.Equal(first, fields) || shares(first[i].S, bytes) || shares(first[i].S, second[i].S) {
			t.Fatalf("field %d: %v", i, first)
		}
		for j := range i {
			if shares(first[i].S, first[j].S) {
				t.Fatalf("fields %d and %d share", i, j)
			}
		}
	}
	first[0], first[1] = n(9), s("")
	if third, _ := pack.Read("btr", bytes); !slices.Equal(second, fields) || !slices.Equal(third, fields) {
		t.Fatalf("%v, %v", second, third)
	}

	text := "a part's text"
	part, _ := pack.Part(text)
	key := part + "what is behind"
	head, behind, ok := pack.Cut(key)
	if !ok || shares(part, text) || shares(head, key) || shares(behind, key) || shares(head, behind) {
		t.Fatalf("%q, %q, %q", part, head, behind)
	}
}

// R4: what was answered stays as it was, when the memory that was handed in holds something else.
func TestAnswersStayBehindTheirArguments(t *testing.T) {
	memory := []byte("\x00\x04texta\x00rest")
	given := unsafe.String(unsafe.SliceData(memory), len(memory))
	record, _ := pack.Read("tr", given)
	bytes, _ := pack.Write("tr", s(given), s(given))
	part, partOK := pack.Part(given[2:7])
	first, behind, _ := pack.Cut(given[2:])
	want := strings.Clone(given)
	for i := range memory {
		memory[i] = 'y'
	}
	if !slices.Equal(record, []api.Field{s("text"), s("a\x00rest")}) {
		t.Errorf("Read: %v", record)
	}
	if bytes != "\x00\x0c"+want+want {
		t.Errorf("Write: %q", bytes)
	}
	if part != "texta\x00" || !partOK || first != "texta" || behind != "rest" {
		t.Errorf("Part, Cut: %q, %q, %q", part, first, behind)
	}
}
