package chunks

import (
	"cooperage/api"
	"cooperage/pack"
)

// Where a store stands in its room.
const (
	chunksAt = 0 // the map of the chunks, by their names
	logAt    = 1 // the map of the log's records, by their numbers
	lastAt   = 2 // the number of the last one that there was; 0: there was none
)

// chunk: as the map has it: its name, the page where its text begins, how many bytes that has, and its count.
type chunk struct {
	id         string
	page, size int
	count      int64
}

// chunkKinds: of a chunk's value: its page, its size, its count.
const chunkKinds = "hbn"

// valOf answers a chunk's value, which is of one length whatever the chunk.
func valOf(c chunk) string {
	val, _ := pack.Write(chunkKinds, api.Field{N: uint64(c.page)}, api.Field{N: uint64(c.size)}, api.Field{N: uint64(c.count)})
	return val
}

// chunkOf answers the chunk of a pair, if it is one's.
func chunkOf(p api.Pair) (chunk, bool) {
	fields, ok := pack.Read(chunkKinds, p.Val)
	if !ok {
		return chunk{}, false
	}
	c := chunk{p.Key, int(fields[0].N), int(fields[1].N), int64(fields[2].N)}
	return c, c.page < api.MaxSectors && c.size >= 1 && c.size <= api.MaxChunk
}

// names: so many chunks may have one fingerprint.
const names = 256

// nameOf answers the name of the chunk of a fingerprint that has a number, from 0 on.
func nameOf(print string, number int) string {
	return print + string([]byte{byte(number)})
}

// lastName answers the greatest name of a fingerprint.
func lastName(print string) string {
	return nameOf(print, names-1)
}

// freeName answers the least name of a fingerprint that is none of its chunks', which are rising; false, if there is none.
func freeName(print string, taken []chunk) (string, bool) {
	for number := range names {
		id := nameOf(print, number)
		if number == len(taken) || taken[number].id != id {
			return id, true
		}
	}
	return "", false
}

// entry: of the log: the page where the text of a chunk stands, and 1 or -1. While the log has it, the chunk isn't given up, so that the page tells which one it is, and in few bytes.
type entry struct {
	page, by int
}

// record: of the log: its key, and its entries, in order; one at least.
type record struct {
	key     string
	entries []entry
}

// How entries stand in a record, one behind the other: in two bytes the page (a disk has fewer than they can tell), the higher one first, and in one the 1 or -1. So many are in one record, so that a change of many entries touches few pages.
const (
	entrySize = 3
	perRecord = api.MaxVal / entrySize
)

// keyOf answers the key of the record of a number.
func keyOf(number uint64) string {
	key, _ := pack.Write("n", api.Field{N: number})
	return key
}

// textOf answers a record's text.
func textOf(entries ...entry) string {
	var text []byte
	for _, x := range entries {
		text = append(text, byte(x.page>>8), byte(x.page), byte(x.by))
	}
	return string(text)
}

// entriesOf answers the entries of a record's text, if it is one's.
func entriesOf(text string) ([]entry, bool) {
	var list []entry
	for ; len(text) >= entrySize; text = text[entrySize:] {
		x := entry{int(text[0])<<8 | int(text[1]), int(int8(text[2]))}
		if x.by != 1 && x.by != -1 {
			return nil, false
		}
		list = append(list, x)
	}
	return list, len(list) > 0 && text == ""
}

// summed answers what entries come to, by the pages of their chunks.
func summed(list []entry) map[int]int64 {
	sums := map[int]int64{}
	for _, x := range list {
		sums[x.page] += int64(x.by)
	}
	return sums
}
