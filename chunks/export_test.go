package chunks

import "cooperage/room"

// AtPrinted answers the store that stands in a room, as one whose fingerprints are others, so that there can be several texts of one.
func AtPrinted(r *room.Room, print func(text string) string) *Store {
	return &Store{room: r, fingerprint: print}
}
