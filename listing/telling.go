package listing

import (
	"cooperage/api"
	"cooperage/name"
)

// The letters of tokens: of an item, of a group.
const (
	ofItem  = "k"
	ofGroup = "p"
)

// telling: a group, or, where that is "", an item.
type telling struct {
	entry api.Entry
	group string
}

// token answers the token that goes on behind a telling.
func (t telling) token() string {
	if t.group != "" {
		return name.Token(ofGroup + t.group)
	}
	return name.Token(ofItem + t.entry.Key)
}

// isToken answers whether a token is "", or such as a telling has.
func isToken(token string) bool {
	letter, _ := readToken(token)
	return token == "" || letter != ""
}

// readToken answers a token's letter, and the item's key or the group behind it; "" and "" of what is no such token.
func readToken(token string) (string, string) {
	text, _ := name.Told(token)
	if text == "" || !name.Item(text[1:]) {
		return "", ""
	}
	switch letter := text[:1]; letter {
	case ofItem, ofGroup:
		return letter, text[1:]
	}
	return "", ""
}
