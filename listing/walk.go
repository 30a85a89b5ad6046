package listing

import (
	"strings"

	"cooperage/api"
	"cooperage/name"
	"cooperage/room"
	"cooperage/tree"
	"cooperage/version"
)

// ofVersion: layer 13's kind of a version's key.
const ofVersion = 'v'

// walk: through what a bucket has to tell, by rising keys of versions: from on, and below to.
type walk struct {
	room                  *room.Room
	bucket, prefix, delim string
	from, to              string
}

// walkOf answers the walk through a bucket's tellings of a prefix and a delimiter that are behind a token.
func walkOf(r *room.Room, bucket, prefix, delim, token string) *walk {
	w := &walk{room: r, bucket: bucket, prefix: prefix, delim: delim}
	w.from = w.keysOf(prefix)
	w.to = name.Behind(w.from)
	switch letter, text := readToken(token); letter {
	case ofItem:
		w.from = max(w.from, w.behindItem(text))
	case ofGroup:
		w.from = max(w.from, w.behindGroup(text))
	}
	return w
}

// keysOf answers what the keys begin with of versions of all items whose keys begin with s.
func (w *walk) keysOf(s string) string {
	return name.Under(ofVersion, w.bucket) + s
}

// behindItem answers from where on the keys stand of versions of items above one.
func (w *walk) behindItem(item string) string {
	return name.Behind(name.Under(ofVersion, w.bucket, item))
}

// behindGroup answers from where on the keys stand of versions of items above a group that don't begin with it.
func (w *walk) behindGroup(group string) string {
	return name.Behind(w.keysOf(group))
}

// first answers the first limit tellings that the walk comes to.
func (w *walk) first(limit int) ([]telling, api.Errno) {
	var list []telling
	for len(list) < limit {
		item, there, e := w.next()
		if e != api.OK {
			return nil, e
		}
		if !there {
			break
		}
		switch v, e := version.Find(w.room, w.bucket, item, 0); e {
		case api.OK:
			list = append(list, w.tell(v))
		case api.NoKey:
			// The item is gone: it is neither told, nor is a group told for its sake.
		default:
			return nil, e
		}
	}
	return list, api.OK
}

// next answers the next item that has versions, if there is one, and goes on behind it.
func (w *walk) next() (string, bool, api.Errno) {
	pairs, e := tree.At(w.room, api.MetaAt).Scan(w.from, w.to, 1)
	if e != api.OK || len(pairs) == 0 {
		return "", false, e
	}
	_, item, _, ok := name.ReadVersion(pairs[0].Key)
	if !ok {
		return "", false, api.ErrLost
	}
	w.from = w.behindItem(item)
	return item, true, api.OK
}

// tell answers by what an item is told whose latest version is v. If that is a group, the walk goes on behind it.
func (w *walk) tell(v api.Version) telling {
	group := w.groupOf(v.Key)
	if group == "" {
		return telling{entry: api.Entry{Key: v.Key, ID: v.ID, Size: v.Size, Born: v.Born}}
	}
	w.from = w.behindGroup(group)
	return telling{group: group}
}

// groupOf answers the group by which an item is told; "", if it isn't gathered.
func (w *walk) groupOf(item string) string {
	at := strings.Index(item[len(w.prefix):], w.delim)
	if w.delim == "" || at < 0 {
		return ""
	}
	return item[:len(w.prefix)+at+len(w.delim)]
}
