package recipe

import (
	"slices"
	"strings"

	"cooperage/api"
)

// How a ref stands in a recipe's bytes: its chunk's name, and in one byte its Len.
const (
	nameSize = 33
	refSize  = nameSize + 1
)

// Right answers whether refs are a recipe.
func Right(refs []api.Ref) bool {
	return len(refs) <= api.MaxRefs && !slices.ContainsFunc(refs, isWrong)
}

// Write answers a recipe's bytes.
func Write(refs []api.Ref) (string, bool) {
	if !Right(refs) {
		return "", false
	}
	text := make([]byte, 0, len(refs)*refSize)
	for _, ref := range refs {
		text = append(text, ref.ID...)
		text = append(text, byte(ref.Len))
	}
	return string(text), true
}

// Read answers the recipe whose bytes s is.
func Read(s string) ([]api.Ref, bool) {
	// The bytes of more refs than a recipe has are refused ahead of taking memory for them.
	if len(s)%refSize != 0 || len(s) > api.MaxRefs*refSize {
		return nil, false
	}
	refs := make([]api.Ref, 0, len(s)/refSize)
	for ; s != ""; s = s[refSize:] {
		refs = append(refs, api.Ref{ID: strings.Clone(s[:nameSize]), Len: int(s[nameSize])})
	}
	if !Right(refs) {
		return nil, false
	}
	return refs, true
}

// Size answers how many bytes a recipe stands for.
func Size(refs []api.Ref) int {
	if !Right(refs) {
		return 0
	}
	size := 0
	for _, ref := range refs {
		size += ref.Len
	}
	return size
}

// isWrong answers whether no recipe has such a ref.
func isWrong(ref api.Ref) bool {
	return len(ref.ID) != nameSize || ref.Len < 1 || ref.Len > api.MaxChunk
}
