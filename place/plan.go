package place

import (
	"strings"

	"tailor/api"
	"tailor/code"
	"tailor/reader"
)

const (
	mark    = "TLRI"
	sumSize = 4
)

// readPlan takes a patch apart, and tells whether all parts of it are there and nothing else; what they say may still be wrong. Its texts are clones, so that the patch is not kept.
func readPlan(patch string) (api.Plan, bool) {
	r := reader.Of(patch)
	if r.Piece(len(mark)) != mark {
		return api.Plan{}, false
	}
	p := api.Plan{}
	p.OldLen = r.Number()
	p.OldSum = strings.Clone(r.Piece(sumSize))
	p.NewLen = r.Number()
	p.NewSum = strings.Clone(r.Piece(sumSize))
	steps := r.Number()
	if r.Failed() || steps > api.MaxSteps {
		return api.Plan{}, false
	}
	for range steps {
		p.Steps = append(p.Steps, readStep(r))
	}
	return p, r.Whole()
}

func readStep(r *reader.Reader) api.Step {
	s := api.Step{}
	s.Kind = r.Byte()
	s.To = r.Number()
	s.Size = r.Number()
	if s.Kind == api.Copy {
		s.From = r.Number()
	} else {
		s.Data = strings.Clone(r.Piece(s.Size))
	}
	return s
}

// mayBe tells whether there is a patch that says this, whatever the order of the steps.
func mayBe(p api.Plan) bool {
	if !isLength(p.OldLen) || !isLength(p.NewLen) || len(p.OldSum) != sumSize || len(p.NewSum) != sumSize || len(p.Steps) > api.MaxSteps {
		return false
	}
	taken := make([]bool, p.NewLen)
	made := 0
	for _, s := range p.Steps {
		if !stepMayBe(s, p) || anyOf(taken[s.To:s.To+s.Size]) {
			return false
		}
		setAll(taken[s.To : s.To+s.Size])
		made += s.Size
	}
	return made == p.NewLen
}

func isLength(n int) bool { return n >= 0 && n <= api.MaxText }

// stepMayBe looks at a step alone.
func stepMayBe(s api.Step, p api.Plan) bool {
	if s.Size < 1 || !within(s.To, s.Size, p.NewLen) {
		return false
	}
	switch s.Kind {
	case api.Add:
		return len(s.Data) == s.Size && s.From == 0
	case api.Copy:
		return s.Data == "" && within(s.From, s.Size, p.OldLen)
	}
	return false
}

// within tells whether there are so many bytes from a place on; the numbers may be so great that they have no sum.
func within(at int, size int, length int) bool {
	return at >= 0 && size <= length && at <= length-size
}

// inOrder tells whether no Copy comes from where a step ahead of it goes, in a plan that else may be.
func inOrder(p api.Plan) bool {
	gone := make([]bool, max(p.OldLen, p.NewLen))
	for _, s := range p.Steps {
		if s.Kind == api.Copy && anyOf(gone[s.From:s.From+s.Size]) {
			return false
		}
		setAll(gone[s.To : s.To+s.Size])
	}
	return true
}

func anyOf(list []bool) bool {
	for _, b := range list {
		if b {
			return true
		}
	}
	return false
}

func setAll(list []bool) {
	for i := range list {
		list[i] = true
	}
}

// writer lays the parts of a patch or of the log one behind the other.
type writer struct {
	strings.Builder
}

// number lays down one that may be in a patch.
func (w *writer) number(n int) {
	text, _ := code.Number(n)
	w.WriteString(text)
}

func writePlan(p api.Plan) string {
	w := &writer{}
	w.WriteString(mark)
	w.number(p.OldLen)
	w.WriteString(p.OldSum)
	w.number(p.NewLen)
	w.WriteString(p.NewSum)
	w.number(len(p.Steps))
	for _, s := range p.Steps {
		w.step(s)
	}
	return w.String()
}

func (w *writer) step(s api.Step) {
	w.WriteByte(byte(s.Kind))
	w.number(s.To)
	w.number(s.Size)
	if s.Kind == api.Copy {
		w.number(s.From)
	} else {
		w.WriteString(s.Data)
	}
}
