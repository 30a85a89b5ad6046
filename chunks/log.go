package chunks

import (
	"math"

	"cooperage/api"
	"cooperage/tree"
)

// log answers the map of the log's records.
func (s *Store) log() *tree.Tree {
	return tree.At(s.room, logAt)
}

// enter lets the log have an entry more: in its last record, or, if that is full, in a new one.
func (s *Store) enter(x entry) api.Errno {
	last, e := s.room.Root(lastAt)
	if e != api.OK {
		return e
	}
	text, there, e := s.log().Get(keyOf(last))
	if e != api.OK {
		return e
	}
	if there {
		entries, ok := entriesOf(text)
		switch {
		case !ok:
			return api.ErrLost
		case len(entries) < perRecord:
			return s.log().Put(keyOf(last), textOf(append(entries, x)...))
		}
	}
	if e := s.log().Put(keyOf(last+1), textOf(x)); e != api.OK {
		return e
	}
	return s.room.SetRoot(lastAt, last+1)
}

// first answers the log's first records, up to so many.
func (s *Store) first(limit int) ([]record, api.Errno) {
	if e := s.state(); e != api.OK {
		return nil, e
	}
	pairs, e := s.log().Scan("", "", limit)
	if e != api.OK {
		return nil, e
	}
	list := make([]record, len(pairs))
	for k, p := range pairs {
		entries, ok := entriesOf(p.Val)
		if !ok {
			return nil, api.ErrLost
		}
		list[k] = record{p.Key, entries}
	}
	return list, api.OK
}

// entries answers all entries of the log, in order.
func (s *Store) entries() ([]entry, api.Errno) {
	records, e := s.first(math.MaxInt)
	var list []entry
	for _, r := range records {
		list = append(list, r.entries...)
	}
	return list, e
}

// pending answers what the log's entries come to, by the pages of their chunks; of other chunks it has nothing.
func (s *Store) pending() (map[int]int64, api.Errno) {
	list, e := s.entries()
	return summed(list), e
}

// leave lets the log have its first limit entries no more, and answers them. All records but the first one and the last one are full, so that they stand in few.
func (s *Store) leave(limit int) ([]entry, api.Errno) {
	records, e := s.first(limit/perRecord + 2)
	if e != api.OK {
		return nil, e
	}
	var left []entry
	for _, r := range records {
		n := min(len(r.entries), limit-len(left))
		if n < 1 {
			break
		}
		left = append(left, r.entries[:n]...)
		if e := s.shorten(r, n); e != api.OK {
			return nil, e
		}
	}
	return left, api.OK
}

// shorten takes the first n entries away from the log's first record, and the record with its last ones.
func (s *Store) shorten(r record, n int) api.Errno {
	if n < len(r.entries) {
		return s.log().Put(r.key, textOf(r.entries[n:]...))
	}
	_, e := s.log().Delete(r.key)
	return e
}
