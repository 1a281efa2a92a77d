package place

import (
	"tailor/api"
	"tailor/blocks"
	"tailor/code"
	"tailor/match"
)

// begin sees that the old text is there, and makes sure that the patch is begun; of the text nothing is written yet.
func begin(d *blocks.Dev, j *journal, patch string, p api.Plan) api.Errno {
	old, ok := d.ReadText(0, p.OldLen)
	if !ok {
		return api.ErrDev
	}
	if code.Sum(old) != p.OldSum {
		return api.ErrOld
	}
	if !j.begin(d, patch, made(old, p)) {
		return api.ErrDev
	}
	return api.OK
}

// made is what the steps make out of the old text. Since a Copy comes from no place to which a step ahead of it goes, it finds there what the old text has.
func made(old string, p api.Plan) string {
	next := make([]byte, p.NewLen)
	for _, s := range p.Steps {
		if s.Kind == api.Copy {
			copy(next[s.To:], old[s.From:s.From+s.Size])
		} else {
			copy(next[s.To:], s.Data)
		}
	}
	return string(next)
}

// goOn brings a patch that is surely begun, on a text that is sure, to its end. It takes the new text from the log, not from the old text, which may be partly gone: so it may be done again as often as the power goes.
func goOn(d *blocks.Dev, j *journal, p api.Plan) api.Errno {
	if !settle(d, j.next) {
		return api.ErrDev
	}
	text, ok := d.ReadText(0, p.NewLen)
	if !ok {
		return api.ErrDev
	}
	if code.Sum(text) != p.NewSum {
		return api.ErrSum
	}
	if !j.end(d) {
		return api.ErrDev
	}
	return api.OK
}

// settle makes sure that a text stands in its place; false: there is no power. What stands there is sure already, and so much of it as is right is not written again, so that a call gets further on little power.
// The first block that changes is made sure ahead of the others. In it is the byte that cut adds; what is ahead of that stays, or it is less than a block and is added with it. So the old text stands there only as long as nothing is written: else so much of a text that is partly written might stay that it is another old text of the same patch.
func settle(d *blocks.Dev, next string) bool {
	there, ok := d.ReadText(0, len(next))
	if !ok {
		return false
	}
	end := endOfBlock(match.Front(there, next), len(next))
	return put(d, 0, there[:end], next[:end]) && put(d, end, there[end:], next[end:])
}

// put makes sure that a piece of the new text stands in its place; what is there now is sure.
func put(d *blocks.Dev, at int, there string, piece string) bool {
	return there == piece || d.WriteText(at, piece) && d.SyncText()
}

// endOfBlock is the place behind the block in which a place is, of a text of so many bytes.
func endOfBlock(at int, size int) int {
	return min(at-at%blocks.Size+blocks.Size, size)
}
