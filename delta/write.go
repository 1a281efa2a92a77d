package delta

import (
	"tailor/api"
	"tailor/code"
)

const codes = 256

// said is what a code says.
type said struct {
	first, second api.Half
}

// book finds a code by what it says.
type book map[said]int

func newBook() book {
	b := book{}
	for n := range codes {
		first, second, _ := code.Code(n)
		b[said{first, second}] = n
	}
	return b
}

// number is the text of a number that may be in a patch.
func number(n int) string {
	text, _ := code.Number(n)
	return text
}

func writeHead(old string, next string) string {
	return mark + number(len(old)) + code.Sum(old) + number(len(next))
}

// writeWindow writes the bytes of all from here up to end, by what is found ahead of them, or plainly, where that would be longer: so no window is much longer than its bytes.
func writeWindow(known book, all string, here int, end int) string {
	makes := all[here:end]
	body := writeMoves(known, cut(all, here, end), here)
	plain := writeMoves(known, appendAdd(nil, makes), here)
	if len(plain) < len(body) {
		body = plain
	}
	return number(len(makes)) + code.Sum(makes) + body
}

// writeMoves writes a window's three parts, with their lengths ahead of them.
func writeMoves(known book, moves []api.Move, here int) string {
	e := encoder{book: known}
	e.encode(moves, here)
	return number(len(e.data)) + number(len(e.codes)) + number(len(e.addresses)) + e.data + e.codes + e.addresses
}

// encoder makes the three parts of a window out of its instructions.
type encoder struct {
	book                   book
	known                  caches
	data, codes, addresses string
}

func (e *encoder) encode(moves []api.Move, here int) {
	var list []api.Half
	for _, m := range moves {
		list = append(list, e.half(m, here))
		here += m.Size
	}
	for len(list) > 0 {
		list = list[e.code(list):]
	}
}

// half lays an instruction's data and address down, and answers what its code must say.
func (e *encoder) half(m api.Move, here int) api.Half {
	h := api.Half{Kind: m.Kind, Size: m.Size}
	e.data += m.Data
	if m.Kind == api.Copy {
		mode, text := e.known.tell(m.From, here)
		h.Mode = mode
		e.addresses += text
		e.known.keep(m.From)
	}
	return h
}

// code lays a code down, for the first two instructions of the list if there is one, else for the first; it answers for how many.
func (e *encoder) code(list []api.Half) int {
	first := list[0]
	if len(list) > 1 {
		if n, ok := e.book[said{first, list[1]}]; ok {
			e.codes += string([]byte{byte(n)})
			return 2
		}
	}
	if n, ok := e.book[said{first: first}]; ok {
		e.codes += string([]byte{byte(n)})
		return 1
	}
	open := api.Half{Kind: first.Kind, Mode: first.Mode} // of size 0, which each kind and mode has
	e.codes += string([]byte{byte(e.book[said{first: open}])}) + number(first.Size)
	return 1
}
