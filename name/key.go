package name

import (
	"cooperage/api"
	"cooperage/pack"
)

// What keys begin with.
const (
	ofBucket  = 'b'
	ofVersion = 'v'
	ofUpload  = 'u'
	ofPart    = 'p'
)

// risingKinds: layer 10's, of a number that stands in order.
const risingKinds = "n"

// BucketKey answers the key of a bucket; "" of what is no bucket's name.
func BucketKey(bucket string) string {
	if !Bucket(bucket) {
		return ""
	}
	return Under(ofBucket, bucket)
}

// VersionKey answers the key of an item's version; "" of what are no names.
func VersionKey(bucket, item string, id uint64) string {
	return write(ofVersion, bucket, item, pack.Falls(id))
}

// ReadVersion answers the bucket, the item and the number of a version's key.
func ReadVersion(key string) (string, string, uint64, bool) {
	return read(ofVersion, key, pack.Fell)
}

// UploadKey answers the key of an item's upload; "" of what are no names.
func UploadKey(bucket, item string, id uint64) string {
	return write(ofUpload, bucket, item, rises(id))
}

// ReadUpload answers the bucket, the item and the number of an upload's key.
func ReadUpload(key string) (string, string, uint64, bool) {
	return read(ofUpload, key, rose)
}

// PartKey answers the key of an upload's part; "" of a part that isn't 0 to 255.
func PartKey(upload uint64, part int) string {
	// A part below 0 is far above 255 as a number without a sign, so that it is refused, too.
	key, _ := pack.Write("bnb", api.Field{N: ofPart}, api.Field{N: upload}, api.Field{N: uint64(part)})
	return key
}

// Under answers what all keys of a kind under some texts begin with; "", if one has a byte 0.
func Under(kind byte, parts ...string) string {
	key := []byte{kind}
	for _, text := range parts {
		part, ok := pack.Part(text)
		if !ok {
			return ""
		}
		key = append(key, part...)
	}
	return string(key)
}

// Behind answers the least text that is above all that begin with s; "", if there is none.
func Behind(s string) string {
	for i := len(s) - 1; i >= 0; i-- {
		// Above a byte 255 there is none: the one ahead of it has to be a greater one, and none is needed behind that.
		if s[i] < 255 {
			return s[:i] + string([]byte{s[i] + 1})
		}
	}
	return ""
}

// write answers the key of a kind of an item's thing, by its number's bytes; "" of what are no names.
func write(kind byte, bucket, item, number string) string {
	if !Bucket(bucket) || !Item(item) {
		return ""
	}
	return Under(kind, bucket, item) + number
}

// read answers the bucket, the item and the number of a key of a kind; numberOf tells the number of its bytes.
func read(kind byte, key string, numberOf func(string) (uint64, bool)) (string, string, uint64, bool) {
	if key == "" || key[0] != kind {
		return "", "", 0, false
	}
	// Where no part is left to cut off, what is told is "", which is no name.
	bucket, behind, _ := pack.Cut(key[1:])
	item, number, _ := pack.Cut(behind)
	id, ok := numberOf(number)
	if !ok || !Bucket(bucket) || !Item(item) {
		return "", "", 0, false
	}
	return bucket, item, id, true
}

// rises answers n in eight bytes: of a greater number they stand above.
func rises(n uint64) string {
	number, _ := pack.Write(risingKinds, api.Field{N: n})
	return number
}

// rose answers the number that s is, as one that rises.
func rose(s string) (uint64, bool) {
	fields, ok := pack.Read(risingKinds, s)
	if !ok {
		return 0, false
	}
	return fields[0].N, true
}
