package delta_test

import (
	"tailor/api"
	"tailor/code"
)

// told is what the slow reader says of a patch.
type told struct {
	form   bool
	oldLen int
	oldSum string
	moves  []api.Move
	sizes  []int // of the windows
	sums   []string
}

// slow reads a patch by the words of P6, another way than the program's: what is missing is a place beyond the end of a text, which panics.
func slow(patch string) (t told) {
	defer func() {
		if recover() != nil {
			t = told{}
		}
	}()
	cut := func(n int) string {
		piece := patch[:n]
		patch = patch[n:]
		return piece
	}
	must(cut(4) == "TLR1")
	t.oldLen = slowNumber(&patch)
	t.oldSum = cut(4)
	newLen := slowNumber(&patch)
	must(newLen <= 4000)
	made := 0
	for patch != "" {
		size := slowNumber(&patch)
		must(1 <= size && size <= 1000)
		t.sizes = append(t.sizes, size)
		t.sums = append(t.sums, cut(4))
		a, b, c := slowNumber(&patch), slowNumber(&patch), slowNumber(&patch)
		t.moves = append(t.moves, slowWindow(t.oldLen+made, size, cut(a), cut(b), cut(c))...)
		made += size
	}
	must(made == newLen)
	t.form = true
	return t
}

func must(ok bool) {
	if !ok {
		panic("no patch")
	}
}

func slowNumber(text *string) int {
	n, end, e := code.Read(*text, 0)
	must(e == api.OK)
	*text = (*text)[end:]
	return n
}

func slowWindow(here, size int, data, codes, addresses string) []api.Move {
	var list []api.Move
	w := newWriter(0) // for the near and same addresses, which it works out of the past
	end := here + size
	for codes != "" {
		first, second, _ := code.Code(int(codes[0]))
		codes = codes[1:]
		for _, h := range []api.Half{first, second} {
			if h.Kind == 0 {
				continue
			}
			if h.Size == 0 {
				h.Size = slowNumber(&codes)
			}
			m := api.Move{Kind: h.Kind, Size: h.Size}
			must(m.Size >= 1 && here+m.Size <= end)
			taken := []int{0, m.Size, 1, 0}[m.Kind]
			m.Data, data = data[:taken], data[taken:]
			if m.Kind == 3 {
				m.From = slowAddress(w, h.Mode, here, &addresses)
				must(0 <= m.From && m.From < here)
				w.keep(m)
			}
			here += m.Size
			list = append(list, m)
		}
	}
	must(here == end && data == "" && addresses == "")
	return list
}

func slowAddress(w *writer, mode, here int, text *string) int {
	switch mode {
	case 0:
		return slowNumber(text)
	case 1:
		return here - slowNumber(text)
	case 2, 3, 4, 5:
		return w.near(mode-2) + slowNumber(text)
	}
	b := int((*text)[0])
	*text = (*text)[1:]
	return w.same(256*(mode-6) + b)
}

// slowApply: what P7 says, of an old text that is not too long.
func slowApply(old, patch string) (string, api.Errno) {
	t := slow(patch)
	if !t.form {
		return "", api.ErrForm
	}
	if len(old) != t.oldLen || code.Sum(old) != t.oldSum {
		return "", api.ErrOld
	}
	all := old
	for _, m := range t.moves {
		all = run(all, m)
	}
	next := all[len(old):]
	rest := next
	for i, size := range t.sizes {
		if code.Sum(rest[:size]) != t.sums[i] {
			return "", api.ErrSum
		}
		rest = rest[size:]
	}
	return next, api.OK
}
