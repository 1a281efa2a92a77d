package delta

import "tailor/api"

// The modes of an address; from nearMode and from sameMode on there is one for each near address and each same table.
const (
	selfMode = 0
	hereMode = 1
	nearMode = 2
	sameMode = nearMode + api.Near
)

const (
	samePlaces = 256 // of one same table: what a byte can tell
	allSame    = api.Same * samePlaces
)

// caches are the addresses of a window's copies so far that the next one may be told by; a window begins with a new one.
type caches struct {
	near [api.Near]int
	turn int
	same [allSame]int
}

func (c *caches) keep(address int) {
	c.near[c.turn] = address
	c.turn = (c.turn + 1) % api.Near
	c.same[address%allSame] = address
}

// tell is the mode by which an address has the shortest text, and that text.
func (c *caches) tell(address int, here int) (int, string) {
	mode, text := selfMode, number(address)
	if short := number(here - address); len(short) < len(text) {
		mode, text = hereMode, short
	}
	for i, near := range c.near {
		if address < near {
			continue
		}
		if short := number(address - near); len(short) < len(text) {
			mode, text = nearMode+i, short
		}
	}
	if place := address % allSame; c.same[place] == address && len(text) > 1 {
		mode, text = sameMode+place/samePlaces, string([]byte{byte(place % samePlaces)})
	}
	return mode, text
}
