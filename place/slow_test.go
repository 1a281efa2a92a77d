package place_test

import (
	"math/rand/v2"
	"strings"

	"tailor/api"
	"tailor/code"
)

func number(n int) string {
	text, e := code.Number(n)
	if e != api.OK {
		panic("this test writes a number that may not be")
	}
	return text
}

func byteOf(b int) string { return string([]byte{byte(b)}) }

func add(to int, data string) api.Step {
	return api.Step{Kind: api.Add, To: to, Size: len(data), Data: data}
}

func copyOf(to, size, from int) api.Step {
	return api.Step{Kind: api.Copy, To: to, Size: size, From: from}
}

func planOf(old, next string, steps ...api.Step) api.Plan {
	return api.Plan{OldLen: len(old), NewLen: len(next), OldSum: code.Sum(old), NewSum: code.Sum(next), Steps: steps}
}

// patchOf writes a plan whose numbers may stand in a patch, whether or not it may be.
func patchOf(p api.Plan) string {
	text := "TLRI" + number(p.OldLen) + p.OldSum + number(p.NewLen) + p.NewSum + number(len(p.Steps))
	for _, s := range p.Steps {
		text += byteOf(s.Kind) + number(s.To) + number(s.Size)
		if s.Kind == api.Copy {
			text += number(s.From)
		} else {
			text += s.Data
		}
	}
	return text
}

// slowRead reads a patch by the words of P9, another way than the program's: what is missing is a place beyond the end of a text, which panics.
func slowRead(patch string) (p api.Plan, e api.Errno) {
	defer func() {
		if recover() != nil {
			p, e = api.Plan{}, api.ErrForm
		}
	}()
	cut := func(n int) string {
		piece := patch[:n]
		patch = patch[n:]
		return piece
	}
	next := func() int {
		n, end, e := code.Read(patch, 0)
		must(e == api.OK)
		cut(end)
		return n
	}
	must(cut(4) == "TLRI")
	p.OldLen, p.OldSum, p.NewLen, p.NewSum = next(), cut(4), next(), cut(4)
	for left := next(); left > 0; left-- {
		s := api.Step{Kind: int(cut(1)[0]), To: next(), Size: next()}
		if s.Kind == 3 {
			s.From = next()
		} else {
			s.Data = cut(s.Size)
		}
		p.Steps = append(p.Steps, s)
	}
	must(patch == "" && slowForm(p))
	if !slowOrder(p.Steps) {
		return api.Plan{}, api.ErrOrder
	}
	return p, api.OK
}

func must(ok bool) {
	if !ok {
		panic("no patch")
	}
}

// slowForm: by the words of P9, of a plan whose numbers stood in a patch.
func slowForm(p api.Plan) bool {
	if len(p.Steps) > 2000 || p.OldLen > 4000 || p.NewLen > 4000 {
		return false
	}
	times := map[int]int{}
	for _, s := range p.Steps {
		if s.Kind != 1 && s.Kind != 3 || s.Size == 0 || s.Size > 4000 || s.Kind == 3 && s.From+s.Size > p.OldLen {
			return false
		}
		for i := range s.Size {
			times[s.To+i]++
		}
	}
	for at := range p.NewLen {
		if times[at] != 1 {
			return false
		}
	}
	return len(times) == p.NewLen
}

// slowOrder holds each Copy against each step ahead of it.
func slowOrder(steps []api.Step) bool {
	for i, s := range steps {
		for _, before := range steps[:i] {
			if s.Kind == 3 && meet(before.To, before.Size, s.From, s.Size) {
				return false
			}
		}
	}
	return true
}

// meet tells whether two pieces have a place in common.
func meet(at, size, other, otherSize int) bool {
	for i := range size {
		if other <= at+i && at+i < other+otherSize {
			return true
		}
	}
	return false
}

// doSteps does them on a text, as P9 says: each reads all its bytes ahead of writing them.
func doSteps(old string, p api.Plan) string {
	text := []byte(old + strings.Repeat("\x00", len(old)+p.NewLen))
	for _, s := range p.Steps {
		data := s.Data
		if s.Kind == 3 {
			data = string(text[s.From : s.From+s.Size])
		}
		copy(text[s.To:], data)
	}
	return string(text[:p.NewLen])
}

// drawer makes things up by chance.
type drawer struct {
	*rand.Rand
}

func newDrawer(seed int) drawer { return drawer{rand.New(rand.NewPCG(uint64(seed), 11))} }

func (d drawer) text(size int) string {
	kinds := 2 + d.IntN(255)
	bytes := make([]byte, size)
	for i := range bytes {
		bytes[i] = byte(d.IntN(kinds))
	}
	return string(bytes)
}

// edited is a text changed as texts are changed: pieces go, come again, stand elsewhere, are new.
func (d drawer) edited(text string, times, most int) string {
	for range times {
		if text == "" {
			text = d.text(min(20, most))
			continue
		}
		from := d.IntN(len(text))
		to := from + 1 + d.IntN(len(text)-from)
		at := d.IntN(len(text) + 1)
		piece := []string{text[from:to], "", d.text(d.IntN(30)), strings.Repeat(d.text(1), d.IntN(60))}[d.IntN(4)]
		switch d.IntN(3) {
		case 0:
			text = text[:at] + piece + text[at:]
		case 1:
			text = text[:from] + text[to:]
		default:
			text = text[to:] + text[:to]
		}
		text = text[:min(len(text), most)]
	}
	return text
}

// plan makes up one that may be but for its order, which may be or not.
func (d drawer) plan() api.Plan {
	old := d.text(d.IntN(60))
	p := api.Plan{OldLen: len(old), OldSum: code.Sum(old), NewSum: d.text(4)}
	for range d.IntN(6) {
		size := 1 + d.IntN(12)
		if size <= len(old) && d.IntN(3) > 0 {
			p.Steps = append(p.Steps, copyOf(p.NewLen, size, d.IntN(len(old)-size+1)))
		} else {
			p.Steps = append(p.Steps, add(p.NewLen, d.text(size)))
		}
		p.NewLen += size
	}
	d.Shuffle(len(p.Steps), func(i, j int) { p.Steps[i], p.Steps[j] = p.Steps[j], p.Steps[i] })
	return p
}
