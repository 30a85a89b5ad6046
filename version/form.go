package version

import (
	"cooperage/api"
	"cooperage/name"
	"cooperage/pack"
)

// ofVersion: layer 13's kind of a version's key.
const ofVersion = 'v'

// versionKinds: of a version's value: what it is, its Born, its Size, its Page.
const versionKinds = "bnhh"

// What a version is, summed up.
const (
	isPlain  = 1
	isMarker = 2
)

// mostBytes: no recipe stands for more.
const mostBytes = api.MaxRefs * api.MaxChunk

// keyOf answers a version's key.
func keyOf(v api.Version) string {
	return name.VersionKey(v.Bucket, v.Key, v.ID)
}

// valOf answers a version's value.
func valOf(v api.Version) string {
	what := uint64(0)
	if v.Plain {
		what += isPlain
	}
	if v.Marker {
		what += isMarker
	}
	val, _ := pack.Write(versionKinds,
		api.Field{N: what}, api.Field{N: v.Born}, api.Field{N: uint64(v.Size)}, api.Field{N: uint64(v.Page)})
	return val
}

// versionOf answers the version of a pair, if it is one's.
func versionOf(p api.Pair) (api.Version, bool) {
	bucket, item, id, ok := name.ReadVersion(p.Key)
	fields, right := pack.Read(versionKinds, p.Val)
	if !ok || !right {
		return api.Version{}, false
	}
	v := api.Version{
		Bucket: bucket,
		Key:    item,
		ID:     id,
		Plain:  fields[0].N&isPlain > 0,
		Marker: fields[0].N&isMarker > 0,
		Born:   fields[1].N,
		Size:   int(fields[2].N),
		Page:   int(fields[3].N),
	}
	if v.Marker && (v.Size > 0 || v.Page > 0) {
		return api.Version{}, false
	}
	// What isn't just as a version is written is none's.
	return v, v.Size <= mostBytes && v.Page < api.MaxSectors && valOf(v) == p.Val
}
