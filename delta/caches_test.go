package delta

import (
	"testing"

	"tailor/reader"
)

// TestP8AddressesAreToldAsTheyAreRead: by the shortest of the modes, and so that it is read again.
func TestP8AddressesAreToldAsTheyAreRead(t *testing.T) {
	var c caches
	const here = 7000
	asked := map[int]int{}
	for _, kept := range []int{900, 300, 1500, 600, 2900, 5000, 5768, 6536, 4444, 3333, 2222} {
		for address := range here {
			mode, text := c.tell(address, here)
			d := decoder{addresses: reader.Of(text), known: c, here: here}
			if got := d.address(mode); got != address || !d.addresses.Whole() {
				t.Fatalf("P8: the address %d told as %q of mode %d is read as %d", address, text, mode, got)
			}
			if short := c.canBeShort(address, here); short != (len(text) == 1) {
				t.Fatalf("P8: the address %d is told as %q of mode %d; one byte can tell it: %v", address, text, mode, short)
			}
			asked[mode]++
		}
		c.keep(kept)
	}
	for mode := range sameMode + 3 {
		if asked[mode] == 0 {
			t.Errorf("this test has not asked for mode %d", mode)
		}
	}
}

// canBeShort tells whether one byte can tell an address.
func (c *caches) canBeShort(address, here int) bool {
	short := address < 128 || here-address < 128
	for _, near := range c.near {
		short = short || near <= address && address < near+128
	}
	for _, same := range c.same {
		short = short || same == address && same != 0
	}
	return short
}
