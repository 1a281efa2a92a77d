package code

import "tailor/api"

const (
	codes     = 256
	nearModes = 2 + api.Near         // the modes whose address is a number
	modes     = nearModes + api.Same // and with them those whose address is a byte
	maxAdd    = 17                   // the greatest size of an Add that has a code of its own
	minCopy   = 4                    // the sizes of a Copy that have
	maxCopy   = 18
	pairAdd   = 4 // the greatest size of an Add with a Copy behind it
	pairCopy  = 6 // the greatest size of a Copy behind an Add
)

// pair is what one code says.
type pair struct {
	first, second api.Half
}

// table is written by init alone, so that calls at the same time may read it.
var table [codes]pair

func init() {
	for n, p := range allPairs() {
		table[n] = p
	}
}

func allPairs() []pair {
	list := []pair{{first: api.Half{Kind: api.Run}}}
	list = appendAdds(list)
	list = appendCopies(list)
	list = appendAddCopies(list, 0, nearModes, pairCopy)
	list = appendAddCopies(list, nearModes, modes, minCopy)
	return appendCopyAdds(list)
}

func appendAdds(list []pair) []pair {
	for size := range maxAdd + 1 {
		list = append(list, pair{first: add(size)})
	}
	return list
}

func appendCopies(list []pair) []pair {
	for mode := range modes {
		list = append(list, pair{first: copyOf(0, mode)})
		for size := minCopy; size <= maxCopy; size++ {
			list = append(list, pair{first: copyOf(size, mode)})
		}
	}
	return list
}

// appendAddCopies goes through the modes from one on and up to another, which is not among them.
func appendAddCopies(list []pair, from int, to int, greatest int) []pair {
	for mode := from; mode < to; mode++ {
		for first := 1; first <= pairAdd; first++ {
			for second := minCopy; second <= greatest; second++ {
				list = append(list, pair{add(first), copyOf(second, mode)})
			}
		}
	}
	return list
}

func appendCopyAdds(list []pair) []pair {
	for mode := range modes {
		list = append(list, pair{copyOf(minCopy, mode), add(1)})
	}
	return list
}

func add(size int) api.Half { return api.Half{Kind: api.Add, Size: size} }

func copyOf(size int, mode int) api.Half {
	return api.Half{Kind: api.Copy, Size: size, Mode: mode}
}
