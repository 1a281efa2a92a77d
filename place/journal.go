package place

import (
	"tailor/blocks"
	"tailor/reader"
)

// What the records of the log begin with. A begun patch has its text and the text that it makes behind that, each with its length ahead of it; a done one has nothing more, so that it is there whole or not at all.
const (
	begunMark = "b"
	doneMark  = "d"
)

// journal is what a log tells of the patch that was begun last. What is ahead of that stays in the log: it could go only with all that is behind it, and then nothing would be told for a while.
type journal struct {
	patch string // "": none was begun
	next  string // what it makes: with this it is gone on with, whatever has become of the old text
	done  bool
	whole int // how many bytes of the log are whole records; behind them may be some of one that the power cut off
}

func readJournal(log string) *journal {
	j := &journal{}
	r := reader.Of(log)
	for r.More() && j.take(r) {
		j.whole = r.At()
	}
	return j
}

// take takes the next record in; false: it is not whole.
func (j *journal) take(r *reader.Reader) bool {
	switch r.Piece(len(begunMark)) {
	case begunMark:
		patch := r.Piece(r.Number())
		next := r.Piece(r.Number())
		if r.Failed() {
			return false
		}
		j.patch, j.next, j.done = patch, next, false
		return true
	case doneMark:
		j.done = true
		return true
	}
	return false
}

// secure makes sure of all that the log has told; false: there is no power. A log may be read ahead of being sure, and the device does not tell which it is: what is answered or written by one that is lost then would stand there alone.
// Cut makes sure of what it leaves, and so what the power cut off goes by the same call.
func (j *journal) secure(d *blocks.Dev) bool { return d.Cut(j.whole) }

func (j *journal) begun() bool { return j.patch != "" && !j.done }

// begin tells the log that a patch is begun, and makes sure of it; false: there is no power.
func (j *journal) begin(d *blocks.Dev, patch string, next string) bool {
	w := &writer{}
	w.WriteString(begunMark)
	w.number(len(patch))
	w.WriteString(patch)
	w.number(len(next))
	w.WriteString(next)
	if !lay(d, w.String()) {
		return false
	}
	j.patch, j.next, j.done = patch, next, false
	return true
}

// end tells the log that the patch is done, and makes sure of it; false: there is no power.
func (j *journal) end(d *blocks.Dev) bool {
	j.done = lay(d, doneMark)
	return j.done
}

// lay lays a record behind the log, which has whole ones alone, and makes sure of it.
func lay(d *blocks.Dev, record string) bool {
	return d.Log(record) && d.SyncLog()
}
