package pack_test

import (
	"encoding/hex"
	"fmt"
	"math"
	"math/big"
	"math/rand"
	"regexp"
	"slices"
	"strconv"
	"testing"

	"cooperage/api"
	"cooperage/pack"
)

// letters: all that kinds are of.
const letters = "nhbtr"

func n(x uint64) api.Field { return api.Field{N: x} }

func s(x string) api.Field { return api.Field{S: x} }

// areKinds: n, h, b, t as often as one likes, r at the end alone.
var areKinds = regexp.MustCompile(`\A[nhbt]*r?\z`)

// digitsOf: how many digits of base 16 a number of a kind has; two for each byte.
func digitsOf(kind byte) int {
	return map[byte]int{'n': 16, 'h': 8, 'b': 2}[kind]
}

// unhexed: the bytes of digits of base 16.
func unhexed(digits string) string {
	raw, err := hex.DecodeString(digits)
	if err != nil {
		panic(err)
	}
	return string(raw)
}

// fieldBytes: the bytes of a field of a kind, and whether it is such a field, in the document's words.
func fieldBytes(kind byte, f api.Field) (string, bool) {
	switch kind {
	case 't':
		return unhexed(fmt.Sprintf("%04x", len(f.S)%65536)) + f.S, f.N == 0 && len(f.S) <= 65535
	case 'r':
		return f.S, f.N == 0
	}
	digits := fmt.Sprintf("%0*x", digitsOf(kind), f.N)
	if f.S != "" || len(digits) > digitsOf(kind) {
		return "", false
	}
	return unhexed(digits), true
}

// written: the bytes of a record, and whether it is one.
func written(kinds string, fields []api.Field) (string, bool) {
	if !areKinds.MatchString(kinds) || len(kinds) != len(fields) {
		return "", false
	}
	all := ""
	for i, f := range fields {
		one, ok := fieldBytes(kinds[i], f)
		if !ok {
			return "", false
		}
		all += one
	}
	return all, true
}

// fieldOf: the field of a kind whose bytes are those alone, and whether there is one.
func fieldOf(kind byte, bytes string) (api.Field, bool) {
	var f api.Field
	switch {
	case kind == 'r':
		f = s(bytes)
	case kind == 't' && len(bytes) >= 2:
		f = s(bytes[2:])
	case kind != 't':
		f = n(new(big.Int).SetBytes([]byte(bytes)).Uint64())
	}
	back, ok := fieldBytes(kind, f)
	return f, ok && back == bytes
}

// readings: all records of those kinds whose bytes text is, found by trying each place where a field may end.
func readings(kinds, text string) [][]api.Field {
	if kinds == "" {
		if text == "" {
			return [][]api.Field{nil}
		}
		return nil
	}
	var all [][]api.Field
	for end := range len(text) + 1 {
		f, ok := fieldOf(kinds[0], text[:end])
		if !ok {
			continue
		}
		for _, behind := range readings(kinds[1:], text[end:]) {
			all = append(all, append([]api.Field{f}, behind...))
		}
	}
	return all
}

// read: the record of those kinds whose bytes text is, and whether there is one.
func read(t *testing.T, kinds, text string) ([]api.Field, bool) {
	t.Helper()
	if !areKinds.MatchString(kinds) {
		return nil, false
	}
	all := readings(kinds, text)
	if len(all) > 1 {
		t.Fatalf("%q, %q: %d records", kinds, text, len(all))
	}
	if len(all) == 0 {
		return nil, false
	}
	return all[0], true
}

// told: what a call told, short enough to be looked at.
func told(all ...any) string {
	text := ""
	for _, one := range all {
		part := fmt.Sprintf("%#v ", one)
		if len(part) > 200 {
			part = part[:200] + "... of " + strconv.Itoa(len(part)) + " "
		}
		text += part
	}
	return text
}

// writes: that Write of those kinds and fields tells such bytes, or none.
func writes(t *testing.T, kinds string, fields []api.Field, want string, wantOK bool) {
	t.Helper()
	if got, ok := pack.Write(kinds, fields...); got != want || ok != wantOK {
		t.Fatalf("Write(%s): %s, not %s", told(kinds, fields), told(got, ok), told(want, wantOK))
	}
}

// reads: that Read of those kinds and bytes tells such fields, or none.
func reads(t *testing.T, kinds, text string, want []api.Field, wantOK bool) {
	t.Helper()
	if got, ok := pack.Read(kinds, text); !slices.Equal(got, want) || ok != wantOK {
		t.Fatalf("Read(%s): %s, not %s", told(kinds, text), told(got, ok), told(want, wantOK))
	}
}

// holds: that a record and its bytes are told from one another.
func holds(t *testing.T, kinds, bytes string, fields ...api.Field) {
	t.Helper()
	writes(t, kinds, fields, bytes, true)
	reads(t, kinds, bytes, fields, true)
}

// numbers: at the edges of each kind, and at each byte's.
func numbers() []uint64 {
	list := []uint64{0, 1, 2, math.MaxUint64, math.MaxUint64 - 1, 0x0102030405060708, 0xfffefdfcfbfaf9f8}
	for shift := 7; shift < 64; shift += 8 {
		for _, top := range []uint64{1 << shift, 1 << (shift + 1)} {
			list = append(list, top-1, top, top+1)
		}
	}
	return list
}

// drawnText: n bytes of any kind; often of few kinds, so that lengths and numbers come about.
func drawnText(source *rand.Rand, n int) string {
	text := make([]byte, n)
	source.Read(text)
	if source.Intn(2) == 0 {
		for i := range text {
			text[i] = "\x00\x00\x01\x02\x03\xffn"[text[i]%7]
		}
	}
	return string(text)
}

// drawnKinds: kinds, or, now and then, some letters that are none.
func drawnKinds(source *rand.Rand) string {
	kinds := ""
	for range source.Intn(7) {
		kinds += string(letters[source.Intn(4)])
	}
	if source.Intn(3) == 0 {
		kinds += "r"
	}
	if source.Intn(8) == 0 {
		at := source.Intn(len(kinds) + 1)
		kinds = kinds[:at] + drawnText(source, 1) + kinds[at:]
	}
	return kinds
}

// drawnField: a field of a kind; now and then one of another.
func drawnField(source *rand.Rand, kind byte) api.Field {
	if source.Intn(30) == 0 {
		kind = letters[source.Intn(len(letters))]
	}
	all := numbers()
	x := all[source.Intn(len(all))]
	if source.Intn(2) == 0 {
		x = source.Uint64()
	}
	switch kind {
	case 'n':
		return n(x)
	case 'h':
		return n(x % (1 << 32))
	case 'b':
		return n(x % 256)
	}
	return s(drawnText(source, source.Intn(12)))
}

// drawnFields: fields for each letter; now and then one more or fewer.
func drawnFields(source *rand.Rand, kinds string) []api.Field {
	var fields []api.Field
	for i := range len(kinds) {
		fields = append(fields, drawnField(source, kinds[i]))
	}
	switch source.Intn(20) {
	case 0:
		fields = append(fields, drawnField(source, letters[source.Intn(len(letters))]))
	case 1:
		fields = fields[:max(len(fields)-1, 0)]
	}
	return fields
}
