package upload

import (
	"cooperage/api"
	"cooperage/name"
	"cooperage/pack"
)

// ofUpload: layer 13's kind of an upload's key.
const ofUpload = 'u'

// Kinds of values: an upload's is its Born, a part's its Size and its Page. Each is of one length, so that no room is needed in the map where a part is put again.
const (
	uploadKinds = "n"
	partKinds   = "hh"
)

// mostBytes: no recipe stands for more.
const mostBytes = api.MaxRefs * api.MaxChunk

// isNumber answers whether a part may have the number n.
func isNumber(n int) bool {
	return 1 <= n && n <= api.MaxParts
}

// uploadVal answers an upload's value.
func uploadVal(born uint64) string {
	val, _ := pack.Write(uploadKinds, api.Field{N: born})
	return val
}

// uploadOf answers the upload of a pair, if it is one's.
func uploadOf(p api.Pair) (api.Upload, bool) {
	_, item, id, ok := name.ReadUpload(p.Key)
	fields, right := pack.Read(uploadKinds, p.Val)
	if !ok || !right {
		return api.Upload{}, false
	}
	return api.Upload{Key: item, ID: id, Born: fields[0].N}, true
}

// partsUnder answers what the keys of an upload's parts begin with.
func partsUnder(id uint64) string {
	key := name.PartKey(id, 0)
	return key[:len(key)-1]
}

// partVal answers a part's value.
func partVal(p api.Part) string {
	val, _ := pack.Write(partKinds, api.Field{N: uint64(p.Size)}, api.Field{N: uint64(p.Page)})
	return val
}

// partOf answers the part of a pair whose key stands under an upload's parts, if it is one's.
func partOf(id uint64, pair api.Pair) (api.Part, bool) {
	n := int(pair.Key[len(pair.Key)-1])
	fields, ok := pack.Read(partKinds, pair.Val)
	if !ok || !isNumber(n) || name.PartKey(id, n) != pair.Key {
		return api.Part{}, false
	}
	p := api.Part{N: n, Size: int(fields[0].N), Page: int(fields[1].N)}
	return p, p.Size <= mostBytes && p.Page < api.MaxSectors
}
