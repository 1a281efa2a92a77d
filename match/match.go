// Package match finds where bytes of one text stand in another one.
package match

// Longest seeks the place at which the most of the bytes that are sought stand, from their front on, among the first so many places of a text: the first such place, and how many stand there.
func Longest(text string, places int, sought string) (at int, size int) {
search:
	for place := range places {
		room := min(len(sought), len(text)-place)
		if room <= size || text[place+size] != sought[size] { // it is not longer than what was found
			continue
		}
		for length := range room {
			if text[place+length] != sought[length] {
				continue search
			}
			if length == size {
				at, size = place, length+1
			}
		}
		break search // all that is sought stands here, or all that the text has from here on: no later place has more
	}
	return at, size
}

// Front is how many bytes two texts have alike from their fronts on.
func Front(text string, other string) int {
	size := 0
	for size < min(len(text), len(other)) && text[size] == other[size] {
		size++
	}
	return size
}
