// Package reader takes the text of a patch or of a log apart, from its front to its end.
package reader

import (
	"tailor/api"
	"tailor/code"
)

// Reader goes through a text. If what it is asked for is not there, it has failed, and gives nothing any more: so callers may ask for several parts and look once whether all were there.
type Reader struct {
	text   string
	at     int
	failed bool
}

// Of begins at the front of a text.
func Of(text string) *Reader { return &Reader{text: text} }

// Number takes the next number (P3); it is 0 if there is none.
func (r *Reader) Number() int {
	if r.failed {
		return 0
	}
	n, behind, e := code.Read(r.text, r.at)
	if e != api.OK {
		r.failed = true
		return 0
	}
	r.at = behind
	return n
}

// Piece takes the next bytes; it is empty if there are not so many.
func (r *Reader) Piece(size int) string {
	if r.failed || size < 0 || size > len(r.text)-r.at {
		r.failed = true
		return ""
	}
	r.at += size
	return r.text[r.at-size : r.at]
}

// Byte takes the next byte; it is 0 if there is none.
func (r *Reader) Byte() int {
	b := r.Piece(1)
	if b == "" {
		return 0
	}
	return int(b[0])
}

// At is the place of what is taken next.
func (r *Reader) At() int { return r.at }

// More tells whether something is left to take.
func (r *Reader) More() bool { return !r.failed && r.at < len(r.text) }

// Failed tells whether something was asked for that was not there.
func (r *Reader) Failed() bool { return r.failed }

// Whole tells whether all of the text was taken, and nothing beyond it asked for.
func (r *Reader) Whole() bool { return !r.failed && r.at == len(r.text) }
