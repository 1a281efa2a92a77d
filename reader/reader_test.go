package reader_test

import (
	"math"
	"testing"

	"tailor/reader"
)

func TestP6PartsAreTakenInOrder(t *testing.T) {
	r := reader.Of("ab\x81\x00\xffcd")
	if s := r.Piece(2); s != "ab" {
		t.Errorf("Piece = %q", s)
	}
	if n := r.Number(); n != 128 {
		t.Errorf("Number = %d", n)
	}
	if b := r.Byte(); b != 255 {
		t.Errorf("Byte = %d", b)
	}
	if s := r.Piece(0); s != "" || r.Failed() {
		t.Errorf("Piece of nothing = %q, failed %v", s, r.Failed())
	}
	if !r.More() || r.Whole() || r.At() != 5 {
		t.Errorf("ahead of the end: More %v, Whole %v, At %d", r.More(), r.Whole(), r.At())
	}
	if s := r.Piece(2); s != "cd" {
		t.Errorf("Piece = %q", s)
	}
	if r.More() || !r.Whole() || r.Failed() {
		t.Errorf("at the end: More %v, Whole %v, Failed %v", r.More(), r.Whole(), r.Failed())
	}
}

func TestP6NothingIsAWholeText(t *testing.T) {
	r := reader.Of("")
	if r.More() || !r.Whole() || r.Failed() || r.Piece(0) != "" || r.Failed() {
		t.Errorf("of nothing: More %v, Whole %v, Failed %v", r.More(), r.Whole(), r.Failed())
	}
}

func TestP6WhatIsNotThereFailsForGood(t *testing.T) {
	for name, ask := range map[string]func(r *reader.Reader){
		"a number that is none":   func(r *reader.Reader) { r.Number() },
		"a piece beyond the end":  func(r *reader.Reader) { r.Piece(4) },
		"a piece of great length": func(r *reader.Reader) { r.Piece(1); r.Piece(math.MaxInt) },
		"a piece of less than 0":  func(r *reader.Reader) { r.Piece(-1) },
		"a byte beyond the end":   func(r *reader.Reader) { r.Piece(3); r.Byte() },
		"a number beyond the end": func(r *reader.Reader) { r.Piece(3); r.Number() },
	} {
		r := reader.Of("\x80\x01\x02")
		ask(r)
		if !r.Failed() || r.More() || r.Whole() {
			t.Errorf("%s: Failed %v, More %v, Whole %v", name, r.Failed(), r.More(), r.Whole())
		}
		if n, s, b := r.Number(), r.Piece(0), r.Byte(); n != 0 || s != "" || b != 0 || !r.Failed() {
			t.Errorf("%s: and then %d, %q, %d", name, n, s, b)
		}
	}
}
