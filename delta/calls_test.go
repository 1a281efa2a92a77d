package delta_test

import (
	"slices"
	"strings"
	"sync"
	"testing"
	"unsafe"

	"tailor/api"
	"tailor/delta"
)

func oddTexts() []string {
	list := []string{"", "T", "TLR1", strings.Repeat("TLR1", 50), strings.Repeat("\x00", 5000), strings.Repeat("\xff", 5000), strings.Repeat("\x80", 5000), examplePatch()}
	for b := range 256 {
		list = append(list, bytesOf(b), "TLR1"+strings.Repeat(bytesOf(b), 12), "TLR1\x00\x00\x00\x00\x01\x01\x01"+strings.Repeat(bytesOf(b), 30))
	}
	return list
}

func TestP1NoCallPanicsAndErrorsStandAlone(t *testing.T) {
	for _, patch := range oddTexts() {
		if list, e := delta.Moves(patch); e != api.OK && len(list) != 0 {
			t.Errorf("P1: Moves(%.60q) = %v beside the error %d", patch, list, e)
		}
		for _, old := range []string{"", "abcd", patch, strings.Repeat("o", 4001)} {
			if next, e := delta.Apply(old, patch); e != api.OK && next != "" {
				t.Errorf("P1: Apply(%.60q, %.60q) = %.60q beside the error %d", old, patch, next, e)
			}
			for _, window := range []int{-1, 16, 1000} {
				if text, e := delta.Diff(old, patch, window); e != api.OK && text != "" {
					t.Errorf("P1: Diff(%.60q, %.60q, %d) = %.60q beside the error %d", old, patch, window, text, e)
				}
			}
		}
	}
}

// Each byte of a patch, made each other byte: the slow reader says what it is then.
func TestP1EachByteChanged(t *testing.T) {
	w := windowOf("abcdxabcd", "x", "\xf7\x14", "\x00\x04")
	patch := patchOf("abcd", "abcdxabcdabcdxabcd", w, windowOf("abcdxabcd", "x", "\xf7\x34", "\x00\x04"))
	for at := range patch {
		for b := range 256 {
			text := patch[:at] + bytesOf(b) + patch[at+1:]
			next, f := slowApply("abcd", text)
			checkApply(t, "abcd", text, next, f)
		}
	}
}

func TestP2AnswersDependOnArgumentsAlone(t *testing.T) {
	var list []written
	diffs := map[string]string{}
	for seed := range 40 {
		p := newWriter(2000 + seed).patch()
		list = append(list, p)
		diffs[p.patch], _ = delta.Diff(p.old, p.next, 100)
	}
	var wait sync.WaitGroup
	for start := range 8 {
		wait.Go(func() {
			for k := range list {
				p := list[(k*(2*start+1))%len(list)]
				if moves, e := delta.Moves(p.patch); !slices.Equal(moves, p.moves) || e != api.OK {
					t.Errorf("P2: Moves at the same time = %v, %d, want %v, OK", moves, e, p.moves)
				}
				checkApply(t, p.old, p.patch, p.next, api.OK)
				if patch, e := delta.Diff(p.old, p.next, 100); patch != diffs[p.patch] || e != api.OK {
					t.Errorf("P2: Diff at the same time = %q, %d, want %q, OK", patch, e, diffs[p.patch])
				}
			}
		})
	}
	wait.Wait()
}

func TestP2WhatIsHandedOutIsNotKept(t *testing.T) {
	patch := examplePatch()
	list, _ := delta.Moves(patch)
	spare := list[:cap(list)]
	for i := range spare {
		spare[i] = api.Move{Kind: 99, Size: 99, Data: "?", From: 99}
	}
	checkMoves(t, patch, copyOf(4, 0), add("x"), copyOf(4, 4))
}

// shares tells whether a text lies within another one's memory.
func shares(text, within string) bool {
	if text == "" || within == "" {
		return false
	}
	at, begin := uintptr(unsafe.Pointer(unsafe.StringData(text))), uintptr(unsafe.Pointer(unsafe.StringData(within)))
	return begin <= at && at < begin+uintptr(len(within))
}

func TestP2WhatIsHandedInIsNotKept(t *testing.T) {
	data := strings.Repeat("data", 10)
	patch := patchOf("", data, windowOf(data, data, "\x01\x28", ""))
	list, _ := delta.Moves(patch)
	if len(list) != 1 || shares(list[0].Data, patch) {
		t.Errorf("P2: Moves = %v, whose data is a piece of the patch", list)
	}
	if next, e := delta.Apply("", patch); next != data || e != api.OK || shares(next, patch) {
		t.Errorf("P2: Apply = %q, %d, which is a piece of the patch", next, e)
	}
}
