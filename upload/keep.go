package upload

import (
	"math"
	"slices"

	"cooperage/api"
	"cooperage/blob"
	"cooperage/bucket"
	"cooperage/chunks"
	"cooperage/name"
	"cooperage/recipe"
	"cooperage/room"
	"cooperage/tree"
)

// meta answers the map in which uploads and their parts stand.
func meta(r *room.Room) *tree.Tree {
	return tree.At(r, api.MetaAt)
}

// under answers the pairs whose keys begin with some bytes.
func under(r *room.Room, from string) ([]api.Pair, api.Errno) {
	return meta(r).Scan(from, name.Behind(from), math.MaxInt)
}

// whole lets what has several steps be done wholly; or, with an error, not at all.
func whole(r *room.Room, do func() api.Errno) api.Errno {
	mark := r.Mark()
	e := do()
	if e != api.OK {
		r.Back(mark)
	}
	return e
}

// placeRefusal answers why an item can't have uploads.
func placeRefusal(r *room.Room, inBucket, item string) api.Errno {
	_, e := r.Root(api.MetaAt)
	switch {
	case e != api.OK:
		return e
	case !name.Item(item):
		return api.BadName
	}
	_, e = bucket.Find(r, inBucket)
	return e
}

// refusal answers why an item has no upload of a number.
func refusal(r *room.Room, bucket, item string, id uint64) api.Errno {
	if e := placeRefusal(r, bucket, item); e != api.OK {
		return e
	}
	key := name.UploadKey(bucket, item, id)
	val, there, e := meta(r).Get(key)
	switch {
	case e != api.OK:
		return e
	case !there:
		return api.NoUpload
	}
	if _, ok := uploadOf(api.Pair{Key: key, Val: val}); !ok {
		return api.ErrLost
	}
	return api.OK
}

// changeRefusal answers why an item's upload of a number can't be changed: also the chunks' store has to be there.
func changeRefusal(r *room.Room, s *chunks.Store, bucket, item string, id uint64) api.Errno {
	// Of no chunk nothing is counted: this tells of the log alone.
	if e := recipe.Take(s, nil); e != api.OK {
		return e
	}
	return refusal(r, bucket, item, id)
}

// partsOf answers an upload's parts, rising.
func partsOf(r *room.Room, id uint64) ([]api.Part, api.Errno) {
	pairs, e := under(r, partsUnder(id))
	if e != api.OK {
		return nil, e
	}
	parts := make([]api.Part, len(pairs))
	for k, pair := range pairs {
		p, ok := partOf(id, pair)
		if !ok {
			return nil, api.ErrLost
		}
		parts[k] = p
	}
	return parts, api.OK
}

// enter lets a part of an upload be of a recipe. What was its blob isn't looked at.
func enter(r *room.Room, id uint64, n int, refs []api.Ref) api.Errno {
	// Refs that are right have bytes; of too many for a blob it tells so.
	bytes, _ := recipe.Write(refs)
	page, e := blob.Put(r, bytes)
	if e != api.OK {
		return e
	}
	p := api.Part{N: n, Size: recipe.Size(refs), Page: page}
	return meta(r).Put(name.PartKey(id, n), partVal(p))
}

// takeBlob lets a part have no blob, and answers its recipe, whose chunks are still counted.
func takeBlob(r *room.Room, p api.Part) ([]api.Ref, api.Errno) {
	refs, e := Refs(r, p)
	if e != api.OK {
		return nil, e
	}
	return refs, blob.Drop(r, p.Page)
}

// takeFormer lets an upload's part of a number have no blob, if there is one, and answers its recipe.
func takeFormer(r *room.Room, id uint64, n int) ([]api.Ref, api.Errno) {
	key := name.PartKey(id, n)
	val, there, e := meta(r).Get(key)
	if e != api.OK || !there {
		return nil, e
	}
	p, ok := partOf(id, api.Pair{Key: key, Val: val})
	if !ok {
		return nil, api.ErrLost
	}
	return takeBlob(r, p)
}

// takeAway lets an item's upload be no more, nor any of its parts, and answers their recipes, one behind the other.
func takeAway(r *room.Room, bucket, item string, id uint64, parts []api.Part) ([][]api.Ref, api.Errno) {
	recipes := make([][]api.Ref, len(parts))
	keys := []string{name.UploadKey(bucket, item, id)}
	for k, p := range parts {
		refs, e := takeBlob(r, p)
		if e != api.OK {
			return nil, e
		}
		recipes[k] = refs
		keys = append(keys, name.PartKey(id, p.N))
	}
	for _, key := range keys {
		if _, e := meta(r).Delete(key); e != api.OK {
			return nil, e
		}
	}
	return recipes, api.OK
}

// drop counts each chunk of some recipes once less. Together these may be more than one recipe has.
func drop(s *chunks.Store, recipes ...[]api.Ref) api.Errno {
	for _, refs := range recipes {
		if e := recipe.Drop(s, refs); e != api.OK {
			return e
		}
	}
	return api.OK
}

// isList answers whether a list may tell of which ones of some parts an item is made.
func isList(parts []api.Part, list []int) bool {
	last := 0
	for _, n := range list {
		if n <= last || !slices.ContainsFunc(parts, func(p api.Part) bool { return p.N == n }) {
			return false
		}
		last = n
	}
	return len(list) > 0
}

// divide answers the refs of those parts that a list tells of, one behind the other, and the recipes of the others.
func divide(parts []api.Part, recipes [][]api.Ref, list []int) ([]api.Ref, [][]api.Ref) {
	var refs []api.Ref
	var others [][]api.Ref
	for k, p := range parts {
		if slices.Contains(list, p.N) {
			refs = append(refs, recipes[k]...)
		} else {
			others = append(others, recipes[k])
		}
	}
	return refs, others
}
