package name_test

import (
	"encoding/hex"
	"fmt"
	"hash/crc32"
	"math"
	"regexp"
	"strings"
	"testing"

	"cooperage/name"
)

// Names, keys and tokens in the document's words.

// areName: 3 to 16 of the letters a to z, digits and -, no - first or last.
var areName = regexp.MustCompile(`\A[a-z0-9][a-z0-9-]{1,14}[a-z0-9]\z`)

// areDigits: of base 16, two for each byte.
var areDigits = regexp.MustCompile(`\A([0-9a-f]{2})*\z`)

func isBucket(s string) bool { return areName.MatchString(s) }

func isItem(s string) bool {
	return len(s) > 0 && len(s) < 41 && strings.Count(s, "\x00") == 0
}

// unhexed: the bytes of digits of base 16.
func unhexed(digits string) string {
	raw, err := hex.DecodeString(digits)
	if err != nil {
		panic(err)
	}
	return string(raw)
}

// eight: a number in eight bytes, the highest first.
func eight(n uint64) string { return unhexed(fmt.Sprintf("%016x", n)) }

func bucketKey(bucket string) string {
	if !isBucket(bucket) {
		return ""
	}
	return "b" + bucket + "\x00"
}

func versionKey(bucket, item string, id uint64) string {
	if !isBucket(bucket) || !isItem(item) {
		return ""
	}
	return "v" + bucket + "\x00" + item + "\x00" + eight(math.MaxUint64-id)
}

func uploadKey(bucket, item string, id uint64) string {
	if !isBucket(bucket) || !isItem(item) {
		return ""
	}
	return "u" + bucket + "\x00" + item + "\x00" + eight(id)
}

func partKey(upload uint64, part int) string {
	if part < 0 || part > 255 {
		return ""
	}
	return "p" + eight(upload) + unhexed(fmt.Sprintf("%02x", part))
}

// read: what a key of an item's thing tells.
type read struct {
	bucket, item string
	id           uint64
	ok           bool
}

// readOf: what key tells: of the one bucket, item and number whose key it may be, if it is; numbers fall from top, or rise from 0.
func readOf(key string, keyOf func(bucket, item string, id uint64) string, falls bool) read {
	at := len(key) - 8
	if at < 0 {
		return read{}
	}
	var id uint64
	fmt.Sscanf(hex.EncodeToString([]byte(key[at:])), "%x", &id)
	if falls {
		id = math.MaxUint64 - id
	}
	// No name has a byte 0, so that the three pieces about the first two of them are all there may be.
	pieces := strings.SplitN(key, "\x00", 3)
	if len(pieces) < 3 || pieces[0] == "" {
		return read{}
	}
	bucket, item := pieces[0][1:], pieces[1]
	if keyOf(bucket, item, id) != key {
		return read{}
	}
	return read{bucket, item, id, true}
}

// underOf: the kind, and each text with a byte 0 behind it.
func underOf(kind byte, parts []string) string {
	if strings.Contains(strings.Join(parts, ""), "\x00") {
		return ""
	}
	key := unhexed(fmt.Sprintf("%02x", kind))
	for _, part := range parts {
		key += part + "\x00"
	}
	return key
}

// isAboveAll: whether u is above all texts that begin with s: above s itself, and none of them.
func isAboveAll(u, s string) bool { return u > s && !strings.HasPrefix(u, s) }

func tokenOf(s string) string {
	return fmt.Sprintf("%08x%x", crc32.ChecksumIEEE([]byte(s)), s)
}

// toldOf: the text of the one token that it may be, if it is.
func toldOf(token string) (string, bool) {
	if len(token) < 8 || !areDigits.MatchString(token) {
		return "", false
	}
	text := unhexed(token[8:])
	if tokenOf(text) != token {
		return "", false
	}
	return text, true
}

// holdsNames: that a text is told to be a name, or not, as it is, and its key.
func holdsNames(t *testing.T, s string) {
	t.Helper()
	if got := name.Bucket(s); got != isBucket(s) {
		t.Fatalf("Bucket(%.60q): %v", s, got)
	}
	if got := name.Item(s); got != isItem(s) {
		t.Fatalf("Item(%.60q): %v", s, got)
	}
	if got := name.BucketKey(s); got != bucketKey(s) {
		t.Fatalf("BucketKey(%.60q): %q", s, got)
	}
}

// holdsKeys: that an item's keys are as they are to be, and are told again, each by its own call alone.
func holdsKeys(t *testing.T, bucket, item string, id uint64) {
	t.Helper()
	version, upload := name.VersionKey(bucket, item, id), name.UploadKey(bucket, item, id)
	if version != versionKey(bucket, item, id) {
		t.Fatalf("VersionKey(%.60q, %.60q, %d): %q", bucket, item, id, version)
	}
	if upload != uploadKey(bucket, item, id) {
		t.Fatalf("UploadKey(%.60q, %.60q, %d): %q", bucket, item, id, upload)
	}
	want := read{}
	if isBucket(bucket) && isItem(item) {
		want = read{bucket, item, id, true}
	}
	tellsKey(t, version, want, read{})
	tellsKey(t, upload, read{}, want)
}

// tellsKey: what ReadVersion and ReadUpload tell of a key.
func tellsKey(t *testing.T, key string, version, upload read) {
	t.Helper()
	var got read
	if got.bucket, got.item, got.id, got.ok = name.ReadVersion(key); got != version {
		t.Fatalf("ReadVersion(%.90q): %.90q, not %.90q", key, told(got), told(version))
	}
	if got.bucket, got.item, got.id, got.ok = name.ReadUpload(key); got != upload {
		t.Fatalf("ReadUpload(%.90q): %.90q, not %.90q", key, told(got), told(upload))
	}
}

func told(r read) string { return fmt.Sprintf("%+v", r) }

// readsKey: that a key is told as in the document's words.
func readsKey(t *testing.T, key string) {
	t.Helper()
	tellsKey(t, key, readOf(key, versionKey, true), readOf(key, uploadKey, false))
}

func holdsPart(t *testing.T, upload uint64, part int) {
	t.Helper()
	if got := name.PartKey(upload, part); got != partKey(upload, part) {
		t.Fatalf("PartKey(%d, %d): %q", upload, part, got)
	}
}

func holdsUnder(t *testing.T, kind byte, parts ...string) {
	t.Helper()
	if got := name.Under(kind, parts...); got != underOf(kind, parts) {
		t.Fatalf("Under(%d, %.90q): %.90q", kind, parts, got)
	}
}

// holdsBehind: that Behind(s) tells the least one above all that begin with s, as far as other texts show it: those above it are it and those above it alone.
func holdsBehind(t *testing.T, s string, others []string) {
	t.Helper()
	behind := name.Behind(s)
	if behind != "" && !isAboveAll(behind, s) {
		t.Fatalf("Behind(%.60q): %.60q, which isn't above all", s, behind)
	}
	for _, u := range others {
		if isAboveAll(u, s) != (behind != "" && u >= behind) {
			t.Fatalf("Behind(%.60q): %.60q; with %.60q", s, behind, u)
		}
	}
}

// holdsToken: that a text's token is as it is to be, and is told again.
func holdsToken(t *testing.T, s string) {
	t.Helper()
	token := name.Token(s)
	if token != tokenOf(s) {
		t.Fatalf("Token(%.60q): %.90q", s, token)
	}
	if got, ok := name.Told(token); got != s || !ok {
		t.Fatalf("Told of the token of %.60q: %.60q, %v", s, got, ok)
	}
}

// tells: that a token is told as in the document's words.
func tells(t *testing.T, token string) {
	t.Helper()
	want, wantOK := toldOf(token)
	if got, ok := name.Told(token); got != want || ok != wantOK {
		t.Fatalf("Told(%.90q): %.60q, %v", token, got, ok)
	}
}
