package delta

import "tailor/api"

// least is the size from which on a Copy or a Run is shorter than its bytes: of this size either has up to 3.
const least = 4

// cut says the bytes of all from here up to end by instructions; all is the old text and the new one.
func cut(all string, here int, end int) []api.Move {
	var list []api.Move
	left := here // the first byte that no instruction makes yet
	for here < end {
		m := best(all, here, end)
		if m.Size < least {
			here++
			continue
		}
		list = appendAdd(list, all[left:here])
		list = append(list, m)
		here += m.Size
		left = here
	}
	return appendAdd(list, all[left:end])
}

func appendAdd(list []api.Move, data string) []api.Move {
	if data == "" {
		return list
	}
	return append(list, api.Move{Kind: api.Add, Size: len(data), Data: data})
}

// best is the Copy or Run that makes the most bytes from here on; its size may be 0.
func best(all string, here int, end int) api.Move {
	from, size := longest(all, here, end)
	if again := alike(all[here:end]); again > size {
		return api.Move{Kind: api.Run, Size: again, Data: all[here : here+1]}
	}
	return api.Move{Kind: api.Copy, Size: size, From: from}
}

// longest seeks the place ahead of here at which the most bytes stand that stand from here up to end too: the first such place. They may reach beyond here, since a Copy may run into what it makes.
func longest(all string, here int, end int) (from int, size int) {
places:
	for place := range here {
		if all[place+size] != all[here+size] { // it is not longer than what was found
			continue
		}
		for length := range end - here {
			if all[place+length] != all[here+length] {
				continue places
			}
			if length == size {
				from, size = place, length+1
			}
		}
		break places // all of them are there: no other place has more
	}
	return from, size
}

// alike is how many bytes at the front of a text are the same one.
func alike(text string) int {
	size := 1
	for size < len(text) && text[size] == text[0] {
		size++
	}
	return size
}
