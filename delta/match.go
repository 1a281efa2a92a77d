package delta

import (
	"tailor/api"
	"tailor/match"
)

// least is the size from which on a Copy or a Run is shorter than its bytes: of this size either has up to 3.
const least = 4

// cut says the bytes of all from here up to end by instructions; all is the old text and the new one.
func cut(all string, here int, end int) []api.Move {
	var list []api.Move
	left := here // the first byte that no instruction makes yet
	for here < end {
		m := best(all, here, end)
		if m.Size < least {
			here++
			continue
		}
		list = appendAdd(list, all[left:here])
		list = append(list, m)
		here += m.Size
		left = here
	}
	return appendAdd(list, all[left:end])
}

func appendAdd(list []api.Move, data string) []api.Move {
	if data == "" {
		return list
	}
	return append(list, api.Move{Kind: api.Add, Size: len(data), Data: data})
}

// best is the Copy or Run that makes the most bytes from here on; its size may be 0. What a Copy makes may reach beyond here, since it may run into what it makes.
func best(all string, here int, end int) api.Move {
	from, size := match.Longest(all[:end], here, all[here:end])
	if again := alike(all[here:end]); again > size {
		return api.Move{Kind: api.Run, Size: again, Data: all[here : here+1]}
	}
	return api.Move{Kind: api.Copy, Size: size, From: from}
}

// alike is how many bytes at the front of a text are the same one.
func alike(text string) int {
	size := 1
	for size < len(text) && text[size] == text[0] {
		size++
	}
	return size
}
