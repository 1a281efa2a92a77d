// Package code: numbers, sums and instructions of patches: see DOC.md.
package code

import "tailor/api"

const (
	groupBits = 7
	groupMask = 1<<groupBits - 1
	moreBit   = 1 << groupBits
	maxGroups = 5 // what MaxNumber has need of
)

const sumBase = 65521

// Number writes a number (P3).
func Number(n int) (string, api.Errno) {
	if n < 0 || n > api.MaxNumber {
		return "", api.ErrArg
	}
	var groups [maxGroups]byte
	at := maxGroups - 1
	groups[at] = byte(n & groupMask)
	for n >>= groupBits; n > 0; n >>= groupBits {
		at--
		groups[at] = byte(n&groupMask) | moreBit
	}
	return string(groups[at:]), api.OK
}

// Read reads a number at a place (P3).
func Read(text string, at int) (int, int, api.Errno) {
	if at < 0 || at > len(text) {
		return 0, 0, api.ErrArg
	}
	if at < len(text) && text[at] == moreBit { // a highest group of 0 is one too much
		return 0, 0, api.ErrForm
	}
	n := 0
	for i := at; i < len(text); i++ {
		if n > api.MaxNumber>>groupBits { // one more group would lead beyond MaxNumber, whose bits are all set
			return 0, 0, api.ErrForm
		}
		n = n<<groupBits | int(text[i]&groupMask)
		if text[i] < moreBit {
			return n, i + 1, api.OK
		}
	}
	return 0, 0, api.ErrForm
}

// Sum is the sum of some bytes (P4).
func Sum(text string) string {
	var a, b uint32 = 1, 0
	for i := range len(text) {
		a = (a + uint32(text[i])) % sumBase
		b = (b + a) % sumBase
	}
	return string([]byte{byte(b >> 8), byte(b), byte(a >> 8), byte(a)})
}

// Code tells the two instructions of a code (P5).
func Code(n int) (api.Half, api.Half, api.Errno) {
	if n < 0 || n >= codes {
		return api.Half{}, api.Half{}, api.ErrArg
	}
	return table[n].first, table[n].second, api.OK
}
