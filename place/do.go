package place

import (
	"tailor/api"
	"tailor/blocks"
	"tailor/code"
)

// begin sees that the old text is there, and makes sure that the patch is begun; of the text nothing is written yet.
func begin(d *blocks.Dev, j *journal, patch string, p api.Plan) api.Errno {
	old, ok := d.ReadText(0, p.OldLen)
	if !ok {
		return api.ErrDev
	}
	if code.Sum(old) != p.OldSum {
		return api.ErrOld
	}
	if !j.begin(d, patch, made(old, p)) {
		return api.ErrDev
	}
	return api.OK
}

// made is what the steps make out of the old text. Since a Copy comes from no place to which a step ahead of it goes, it finds there what the old text has.
func made(old string, p api.Plan) string {
	next := make([]byte, p.NewLen)
	for _, s := range p.Steps {
		if s.Kind == api.Copy {
			copy(next[s.To:], old[s.From:s.From+s.Size])
		} else {
			copy(next[s.To:], s.Data)
		}
	}
	return string(next)
}

// goOn brings a patch that is surely begun to its end. It takes the new text from the log, not from the old text, which may be partly gone: so it may be done again as often as the power goes.
func goOn(d *blocks.Dev, j *journal, p api.Plan) api.Errno {
	if !settle(d, j.next) {
		return api.ErrDev
	}
	text, ok := d.ReadText(0, p.NewLen)
	if !ok {
		return api.ErrDev
	}
	if code.Sum(text) != p.NewSum {
		return api.ErrSum
	}
	if !j.end(d) {
		return api.ErrDev
	}
	return api.OK
}

// settle makes sure that a text stands in its place; false: there is no power. One that stands there already is not written again, so that a call gets further on little power.
func settle(d *blocks.Dev, next string) bool {
	there, ok := d.ReadText(0, len(next))
	if ok && there != next {
		ok = d.WriteText(0, next)
	}
	return ok && d.SyncText()
}
