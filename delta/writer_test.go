package delta_test

import (
	"math/rand/v2"
	"strings"

	"tailor/api"
	"tailor/code"
)

func number(n int) string {
	text, e := code.Number(n)
	if e != api.OK {
		panic("this test writes a number that may not be")
	}
	return text
}

func bytesOf(list ...int) string {
	text := ""
	for _, b := range list {
		text += string([]byte{byte(b)})
	}
	return text
}

// windowOf writes a window that says that it makes these bytes.
func windowOf(makes, data, codes, addresses string) string {
	return number(len(makes)) + code.Sum(makes) + number(len(data)) + number(len(codes)) + number(len(addresses)) + data + codes + addresses
}

func patchOf(old, next string, windows ...string) string {
	return "TLR1" + number(len(old)) + code.Sum(old) + number(len(next)) + strings.Join(windows, "")
}

// run does an instruction the plain way: all is the old text and what there is of the new one.
func run(all string, m api.Move) string {
	for i := range m.Size {
		switch m.Kind {
		case api.Add:
			all += m.Data[i : i+1]
		case api.Run:
			all += m.Data
		case api.Copy:
			all += all[m.From+i : m.From+i+1]
		}
	}
	return all
}

// writer writes windows by chance, of all codes and modes that will do.
type writer struct {
	chance *rand.Rand
	past   []int // the addresses of the window so far
}

// near is worked out of the past: the latest address whose turn it was.
func (w *writer) near(k int) int {
	for i := len(w.past) - 1; i >= 0; i-- {
		if i%4 == k {
			return w.past[i]
		}
	}
	return 0
}

func (w *writer) same(place int) int {
	for i := len(w.past) - 1; i >= 0; i-- {
		if w.past[i]%768 == place {
			return w.past[i]
		}
	}
	return 0
}

// address writes one by a mode, if that can be.
func (w *writer) address(mode, from, here int) (string, bool) {
	switch {
	case mode == 0:
		return number(from), true
	case mode == 1:
		return number(here - from), true
	case mode < 6:
		if near := w.near(mode - 2); near <= from {
			return number(from - near), true
		}
		return "", false
	}
	if place := from % 768; place/256 == mode-6 && w.same(place) == from {
		return bytesOf(place % 256), true
	}
	for b := range 256 { // an address that was never kept is 0
		if from == 0 && w.same((mode-6)*256+b) == 0 {
			return bytesOf(b), true
		}
	}
	return "", false
}

// fits tells whether half of a code may stand for an instruction, what stands behind the code, and the address.
func (w *writer) fits(h api.Half, m api.Move, here int) (behind, address string, ok bool) {
	if h.Kind != m.Kind || h.Size != 0 && h.Size != m.Size {
		return "", "", false
	}
	if h.Size == 0 {
		behind = number(m.Size)
	}
	ok = true
	if m.Kind == api.Copy {
		address, ok = w.address(h.Mode, m.From, here)
	}
	return behind, address, ok
}

func (w *writer) keep(m api.Move) {
	if m.Kind == api.Copy {
		w.past = append(w.past, m.From)
	}
}

// window writes the instructions of one, and answers what there is then.
func (w *writer) window(all string, moves []api.Move) (string, string) {
	begin := len(all)
	data, codes, addresses := "", "", ""
	w.past = nil
	for len(moves) > 0 {
		n := w.chance.IntN(256)
		first, second, _ := code.Code(n)
		behind, address, ok := w.fits(first, moves[0], len(all))
		if !ok || second.Kind != 0 && len(moves) == 1 {
			continue
		}
		used := 1
		if second.Kind != 0 {
			past := w.past
			w.keep(moves[0])
			behind2, address2, ok := w.fits(second, moves[1], len(all)+moves[0].Size)
			w.past = past
			if !ok {
				continue
			}
			behind, address, used = behind+behind2, address+address2, 2
		}
		codes += bytesOf(n) + behind
		addresses += address
		for _, m := range moves[:used] {
			data += m.Data
			w.keep(m)
			all = run(all, m)
		}
		moves = moves[used:]
	}
	return windowOf(all[begin:], data, codes, addresses), all
}

func (w *writer) text(size int) string {
	kinds := 2 + w.chance.IntN(255)
	bytes := make([]byte, size)
	for i := range bytes {
		bytes[i] = byte(w.chance.IntN(kinds))
	}
	return string(bytes)
}

// move makes up an instruction that may stand here: often of a size that has a code of its own, and from an address that was there already.
func (w *writer) move(here, most int) api.Move {
	size := 1 + w.chance.IntN(min(most, []int{4, 7, 18, 150}[w.chance.IntN(4)]))
	switch kind := w.chance.IntN(8); {
	case kind == 0:
		return api.Move{Kind: api.Run, Size: size, Data: w.text(1)}
	case kind < 4 || here == 0:
		return api.Move{Kind: api.Add, Size: size, Data: w.text(size)}
	}
	from := w.chance.IntN(here)
	if len(w.past) > 0 && w.chance.IntN(2) == 0 {
		from = min(here-1, w.past[w.chance.IntN(len(w.past))]+w.chance.IntN(3))
	}
	return api.Move{Kind: api.Copy, Size: size, From: from}
}

// moves makes up those of one window.
func (w *writer) moves(here, size int) []api.Move {
	var list []api.Move
	w.past = nil
	for size > 0 {
		m := w.move(here, size)
		list = append(list, m)
		w.keep(m)
		here, size = here+m.Size, size-m.Size
	}
	return list
}

// written is a patch made up by chance, and what it says.
type written struct {
	old, next, patch string
	moves            []api.Move
}

func (w *writer) patch() written {
	p := written{old: w.text(w.chance.IntN(900))}
	all, windows := p.old, []string(nil)
	for range w.chance.IntN(5) {
		moves := w.moves(len(all), 1+w.chance.IntN(300))
		p.moves = append(p.moves, moves...)
		var text string
		text, all = w.window(all, moves)
		windows = append(windows, text)
	}
	p.next = all[len(p.old):]
	p.patch = patchOf(p.old, p.next, windows...)
	return p
}

func newWriter(seed int) *writer {
	return &writer{chance: rand.New(rand.NewPCG(uint64(seed), 7))}
}
