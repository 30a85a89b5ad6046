package recipe

import (
	"strings"

	"cooperage/api"
	"cooperage/chunks"
)

// part: of a recipe: of a ref's chunk the bytes from from on, up to to.
type part struct {
	ref      api.Ref
	from, to int
}

// Pieces answers the parts of a recipe's chunks that stand for n bytes from a place on.
func Pieces(refs []api.Ref, from, n int) []api.Piece {
	if !Right(refs) {
		return nil
	}
	var pieces []api.Piece
	for _, p := range partsOf(refs, from, n) {
		pieces = append(pieces, api.Piece{ID: strings.Clone(p.ref.ID), From: p.from, To: p.to})
	}
	return pieces
}

// Bytes answers n bytes, from a place on, of those that a recipe stands for.
func Bytes(s *chunks.Store, refs []api.Ref, from, n int) (string, api.Errno) {
	if e := refusal(s, refs); e != api.OK {
		return "", e
	}
	var text strings.Builder
	for _, p := range partsOf(refs, from, n) {
		held, e := s.Get(p.ref.ID)
		switch {
		case e != api.OK:
			return "", e
		case len(held) != p.ref.Len:
			return "", api.ErrLost
		}
		text.WriteString(held[p.from:p.to])
	}
	return text.String(), api.OK
}

// partsOf answers the parts of a recipe, of a byte at least each, that stand for n bytes from a place on.
func partsOf(refs []api.Ref, from, n int) []part {
	from, to := stretch(from, n, Size(refs))
	var list []part
	for _, ref := range refs {
		p := part{ref, max(from, 0), min(to, ref.Len)}
		if p.from < p.to {
			list = append(list, p)
		}
		from, to = from-ref.Len, to-ref.Len
	}
	return list
}

// stretch answers from where on, and up to where, n bytes from a place on stand in a text of so many bytes.
func stretch(from, n, size int) (int, int) {
	if n < 1 {
		return 0, 0
	}
	// Numbers are added only where one is below 0 and one isn't, or where the sum is in the text, so that none is past what an int can be.
	if from < 0 {
		from, n = 0, from+n
	}
	n = max(0, min(n, size-from))
	return from, from + n
}
