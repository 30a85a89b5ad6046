package bucket

import (
	"strings"

	"cooperage/api"
	"cooperage/name"
	"cooperage/pack"
)

// Layer 13's kinds of keys.
const (
	ofBucket  = 'b'
	ofVersion = 'v'
	ofUpload  = 'u'
)

// bucketKinds: of a bucket's value: its State, its Born; of its rule, whether it is On, its After, its Prefix; and behind it noughts. With these the value is of one length whatever the bucket, so that no room is needed where a bucket that is there changes.
const bucketKinds = "bnbntr"

// isRule answers whether a bucket may have a rule.
func isRule(rule api.Rule) bool {
	if !rule.On {
		return rule == api.Rule{}
	}
	return len(rule.Prefix) <= api.MaxPrefix
}

// isBucket answers whether there may be a bucket of such a State and rule.
func isBucket(b api.Bucket) bool {
	switch b.State {
	case api.Off, api.Kept, api.Suspended:
		return isRule(b.Rule)
	}
	return false
}

// valOf answers a bucket's value.
func valOf(b api.Bucket) string {
	on := uint64(0)
	if b.Rule.On {
		on = 1
	}
	val, _ := pack.Write(bucketKinds,
		api.Field{N: uint64(b.State)}, api.Field{N: b.Born},
		api.Field{N: on}, api.Field{N: b.Rule.After}, api.Field{S: b.Rule.Prefix},
		api.Field{S: strings.Repeat("\x00", api.MaxPrefix-len(b.Rule.Prefix))})
	return val
}

// bucketOf answers the bucket of a pair, if it is one's.
func bucketOf(p api.Pair) (api.Bucket, bool) {
	bucket, _, _ := pack.Cut(p.Key[1:])
	fields, ok := pack.Read(bucketKinds, p.Val)
	if !ok || name.BucketKey(bucket) != p.Key {
		return api.Bucket{}, false
	}
	b := api.Bucket{
		Name:  bucket,
		State: int(fields[0].N),
		Born:  fields[1].N,
		Rule:  api.Rule{On: fields[2].N > 0, After: fields[3].N, Prefix: fields[4].S},
	}
	// What isn't just as a bucket is written is none's.
	return b, isBucket(b) && valOf(b) == p.Val
}
