package place_test

import (
	"testing"

	"tailor/api"
	"tailor/blocks"
	"tailor/delta"
	"tailor/place"
)

// pairs are old and new texts of all sorts.
func pairs(seed, most int) (string, string) {
	d := newDrawer(seed)
	old := d.text(d.IntN(most + 1))
	switch d.IntN(4) {
	case 0:
		return old, d.text(d.IntN(most + 1))
	case 1:
		return old, old
	}
	return old, d.edited(old, 1+d.IntN(10), most)
}

func TestP12WhatDiffMakesIsTheNewTextAgain(t *testing.T) {
	for seed := range 300 {
		old, next := pairs(seed, []int{30, 500, api.MaxText}[seed%3])
		window := api.MinWindow + newDrawer(seed).IntN(api.MaxWindow-api.MinWindow+1)
		patch, e := delta.Diff(old, next, window)
		text, f := delta.Apply(old, patch)
		if text != next || e != api.OK || f != api.OK {
			t.Fatalf("P12: Diff(%q, %q, %d) %d, Apply %d: %q", old, next, window, e, f, text)
		}
	}
}

func TestP12WhatMakeMakesIsTheNewTextAgain(t *testing.T) {
	for seed := range 300 {
		old, next := pairs(seed, []int{30, 500, api.MaxText}[seed%3])
		d := blocks.New(max(len(old), len(next))+seed%20, old)
		patch, e := place.Make(old, next)
		f := place.Do(d, patch)
		if e != api.OK || f != api.OK || textOf(d, len(next)) != next {
			t.Fatalf("P12: Make(%q, %q) %d, Do %d: %q", old, next, e, f, textOf(d, len(next)))
		}
	}
}

// However often the power goes, and whatever stays.
func TestP12ItComesToTheNewText(t *testing.T) {
	for seed := range 1500 {
		old, next := pairs(seed, []int{20, 100, 700, api.MaxText}[seed%4])
		draw := newDrawer(seed)
		d := blocks.New(max(len(old), len(next)), old)
		patch := makeOf(old, next)
		for tries := 0; ; tries++ {
			d.Die(draw.IntN(1 + tries/4))
			e := place.Do(d, patch)
			dead := d.Dead()
			keep := make([]int, draw.IntN(2+d.Len()/blocks.Size*2))
			for i := range keep {
				keep[i] = draw.IntN(10000) - 100
			}
			d.Power(keep)
			if e == api.OK {
				break
			}
			if e != api.ErrDev || !dead {
				t.Fatalf("P12: Do = %d", e)
			}
		}
		if textOf(d, len(next)) != next || !isDone(d, patch) {
			t.Fatalf("P12: from %q to %q: the text is %q", old, next, textOf(d, len(next)))
		}
	}
}
