package version

import (
	"math"

	"cooperage/api"
	"cooperage/blob"
	"cooperage/bucket"
	"cooperage/chunks"
	"cooperage/name"
	"cooperage/recipe"
	"cooperage/room"
	"cooperage/tree"
)

// meta answers the map in which versions stand.
func meta(r *room.Room) *tree.Tree {
	return tree.At(r, api.MetaAt)
}

// under answers the bucket under which an item stands.
func under(r *room.Room, inBucket, item string) (api.Bucket, api.Errno) {
	_, e := r.Root(api.NextAt)
	switch {
	case e != api.OK:
		return api.Bucket{}, e
	case !name.Item(item):
		return api.Bucket{}, api.BadName
	}
	return bucket.Find(r, inBucket)
}

// stateOf answers the State of an item's bucket, for what changes something: also the chunks' store has to be there.
func stateOf(r *room.Room, s *chunks.Store, inBucket, item string) (int, api.Errno) {
	// Of no chunk nothing is counted: this tells of the log alone.
	if e := recipe.Take(s, nil); e != api.OK {
		return 0, e
	}
	b, e := under(r, inBucket, item)
	return b.State, e
}

// first answers the first limit versions of an item, the latest first.
func first(r *room.Room, bucket, item string, limit int) ([]api.Version, api.Errno) {
	from := name.Under(ofVersion, bucket, item)
	pairs, e := meta(r).Scan(from, name.Behind(from), limit)
	if e != api.OK {
		return nil, e
	}
	list := make([]api.Version, len(pairs))
	for k, p := range pairs {
		v, ok := versionOf(p)
		if !ok {
			return nil, api.ErrLost
		}
		list[k] = v
	}
	return list, api.OK
}

// sought answers an item's version of a number, or, by 0, its latest one.
func sought(r *room.Room, bucket, item string, id uint64) (api.Version, api.Errno) {
	if id > 0 {
		return kept(r, bucket, item, id)
	}
	list, e := first(r, bucket, item, 1)
	switch {
	case e != api.OK:
		return api.Version{}, e
	case len(list) == 0:
		return api.Version{}, api.NoKey
	}
	return list[0], api.OK
}

// kept answers an item's version of a number.
func kept(r *room.Room, bucket, item string, id uint64) (api.Version, api.Errno) {
	key := name.VersionKey(bucket, item, id)
	val, there, e := meta(r).Get(key)
	switch {
	case e != api.OK:
		return api.Version{}, e
	case !there:
		return api.Version{}, api.NoVersion
	}
	v, ok := versionOf(api.Pair{Key: key, Val: val})
	if !ok {
		return api.Version{}, api.ErrLost
	}
	return v, api.OK
}

// recipeOf answers the recipe of a version that is kept.
func recipeOf(r *room.Room, v api.Version) ([]api.Ref, api.Errno) {
	if v.Marker {
		return nil, api.OK
	}
	bytes, e := blob.Get(r, v.Page)
	refs, ok := recipe.Read(bytes)
	switch {
	case e == api.ErrRange:
		// There is no such page: the recipe is lost.
		return nil, api.ErrLost
	case e != api.OK:
		return nil, e
	case !ok || recipe.Size(refs) != v.Size:
		return nil, api.ErrLost
	}
	return refs, api.OK
}

// replace lets there be what place makes of v; if v is plain, the plain version that its item had is given up. With an error nothing has changed.
func replace(r *room.Room, s *chunks.Store, v api.Version, place func() (api.Version, api.Errno)) (api.Version, api.Errno) {
	mark := r.Mark()
	var given []api.Ref
	e := api.OK
	if v.Plain {
		given, e = takePlain(r, v.Bucket, v.Key)
	}
	if e == api.OK {
		v, e = place()
	}
	// Chunks are counted less at the end: that is done without room, too, so that what room there is is left to the version.
	if e == api.OK {
		e = recipe.Drop(s, given)
	}
	if e != api.OK {
		r.Back(mark)
		return api.Version{}, e
	}
	return v, api.OK
}

// enter keeps a version, with a number of its own.
func enter(r *room.Room, v api.Version) (api.Version, api.Errno) {
	id, e := Number(r)
	if e != api.OK {
		return api.Version{}, e
	}
	v.ID = id
	return v, meta(r).Put(keyOf(v), valOf(v))
}

// takePlain takes away an item's plain version, if there is one, and answers its recipe.
func takePlain(r *room.Room, bucket, item string) ([]api.Ref, api.Errno) {
	list, e := first(r, bucket, item, math.MaxInt)
	if e != api.OK {
		return nil, e
	}
	for _, v := range list {
		if v.Plain {
			return takeAway(r, v)
		}
	}
	return nil, api.OK
}

// takeAway lets a version have neither key nor blob, and answers its recipe, whose chunks are to be counted less.
func takeAway(r *room.Room, v api.Version) ([]api.Ref, api.Errno) {
	refs, e := recipeOf(r, v)
	if e == api.OK && !v.Marker {
		e = blob.Drop(r, v.Page)
	}
	if e == api.OK {
		_, e = meta(r).Delete(keyOf(v))
	}
	if e != api.OK {
		return nil, e
	}
	return refs, api.OK
}
