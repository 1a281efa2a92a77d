package place

import (
	"strings"

	"tailor/api"
	"tailor/match"
)

// least is the size from which on a Copy makes no patch longer: it has up to 7 bytes, and what an Add that is parted by it has more is up to 5. So a patch has at most 23 bytes more than the new text, and far fewer steps than there may be. (And it is not greater than a block: see settle.)
const least = 12

// cut says a new text by steps, listed by the places to which they go. What both texts begin with stays, and the first byte in which they differ is added, even where a Copy could make it: a patch that was begun or done is known by its bytes alone, so one that could make the old text out of another text would be taken as done where it is not. A patch with this byte in it makes the old text out of none.
func cut(old string, next string) []api.Step {
	var list []api.Step
	left := 0 // the first byte that no step makes yet
	here := match.Front(old, next)
	if here >= least {
		list = append(list, api.Step{Kind: api.Copy, Size: here})
		left = here
	}
	if here < len(old) {
		here++
	}
	for here < len(next) {
		from, size := source(old, next, here)
		if size < least {
			here++
			continue
		}
		list = appendAdd(list, next, left, here)
		list = append(list, api.Step{Kind: api.Copy, To: here, Size: size, From: from})
		here += size
		left = here
	}
	return appendAdd(list, next, left, len(next))
}

func appendAdd(list []api.Step, next string, to int, end int) []api.Step {
	if to == end {
		return list
	}
	return append(list, addOf(next, to, end-to))
}

func addOf(next string, to int, size int) api.Step {
	return api.Step{Kind: api.Add, To: to, Size: size, Data: next[to : to+size]}
}

// source is where the most bytes stand that the new text has from here on, and how many. Bytes that may stay where they are do: then no step has to wait for them.
func source(old string, next string, here int) (int, int) {
	from, size := match.Longest(old, len(old), next[here:])
	if here < len(old) && strings.HasPrefix(old[here:], next[here:here+size]) {
		from = here
	}
	return from, size
}
