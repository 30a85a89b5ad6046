package name

import (
	"cooperage/api"
	"cooperage/pack"
	"cooperage/sums"
)

// tokenKinds: layer 10's, of what a token's digits stand for: the text's check sum, and the text.
const tokenKinds = "hr"

// Token answers the token that stands for s.
func Token(s string) string {
	record, _ := pack.Write(tokenKinds, api.Field{N: uint64(sums.Check(s))}, api.Field{S: s})
	return sums.Hex(record)
}

// Told answers the text that a token stands for.
func Told(token string) (string, bool) {
	record, _ := sums.Raw(token)
	// Of what aren't digits the record is "", which is too short for a sum.
	fields, ok := pack.Read(tokenKinds, record)
	if !ok || fields[0].N != uint64(sums.Check(fields[1].S)) {
		return "", false
	}
	return fields[1].S, true
}
