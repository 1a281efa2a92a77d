package place_test

import (
	"strings"
	"testing"

	"tailor/api"
	"tailor/blocks"
	"tailor/delta"
	"tailor/place"
)

// pairs are old and new texts of all sorts.
func pairs(seed, most int) (string, string) {
	d := newDrawer(seed)
	old := d.text(d.IntN(most + 1))
	switch d.IntN(4) {
	case 0:
		return old, d.text(d.IntN(most + 1))
	case 1:
		return old, old
	}
	return old, d.edited(old, 1+d.IntN(10), most)
}

func TestP12WhatDiffMakesIsTheNewTextAgain(t *testing.T) {
	for seed := range 300 {
		old, next := pairs(seed, []int{30, 500, api.MaxText}[seed%3])
		window := api.MinWindow + newDrawer(seed).IntN(api.MaxWindow-api.MinWindow+1)
		patch, e := delta.Diff(old, next, window)
		text, f := delta.Apply(old, patch)
		if text != next || e != api.OK || f != api.OK {
			t.Fatalf("P12: Diff(%q, %q, %d) %d, Apply %d: %q", old, next, window, e, f, text)
		}
	}
}

func TestP12WhatMakeMakesIsTheNewTextAgain(t *testing.T) {
	for seed := range 300 {
		old, next := pairs(seed, []int{30, 500, api.MaxText}[seed%3])
		d := blocks.New(max(len(old), len(next))+seed%20, old)
		patch, e := place.Make(old, next)
		f := place.Do(d, patch)
		if e != api.OK || f != api.OK || textOf(d, len(next)) != next {
			t.Fatalf("P12: Make(%q, %q) %d, Do %d: %q", old, next, e, f, textOf(d, len(next)))
		}
	}
}

// However often the power goes, and whatever stays.
func TestP12ItComesToTheNewText(t *testing.T) {
	for seed := range 1500 {
		old, next := pairs(seed, []int{20, 100, 700, api.MaxText}[seed%4])
		draw := newDrawer(seed)
		d := blocks.New(max(len(old), len(next)), old)
		patch := makeOf(old, next)
		for tries := 0; ; tries++ {
			d.Die(draw.IntN(1 + tries/4))
			e := place.Do(d, patch)
			dead := d.Dead()
			keep := make([]int, draw.IntN(2+d.Len()/blocks.Size*2))
			for i := range keep {
				keep[i] = draw.IntN(10000) - 100
			}
			if draw.IntN(4) == 0 {
				d.Die(plenty) // nothing is lost, nothing is made sure
			} else {
				d.Power(keep)
			}
			if e == api.OK {
				break
			}
			if e != api.ErrDev || !dead {
				t.Fatalf("P12: Do = %d", e)
			}
		}
		if textOf(d, len(next)) != next || !isDone(d, patch) {
			t.Fatalf("P12: from %q to %q: the text is %q", old, next, textOf(d, len(next)))
		}
	}
}

// evenly is a text of bytes that are 33 on the average: so it may move past bytes that are 33, and the sum of the whole text stays.
func (d drawer) evenly(size int) string {
	bytes := make([]byte, size)
	for i := range bytes {
		bytes[i] = 33
	}
	for i := 0; i+1 < size; i += 2 {
		by := 1 + d.IntN(32)
		bytes[i], bytes[i+1] = byte(33-by), byte(33+by)
	}
	d.Shuffle(size, func(i, j int) { bytes[i], bytes[j] = bytes[j], bytes[i] })
	return string(bytes)
}

// shifts are texts of one sum: ahead, then a text that moves by so many bytes from the one to the next, then behind.
func (d drawer) shifts(ahead, behind string, by, count int) []string {
	middle := d.evenly(12 + d.IntN(60))
	var list []string
	for k := range count {
		list = append(list, ahead+strings.Repeat("!", by*(count-1-k))+middle+strings.Repeat("!", by*k)+behind)
	}
	return list
}

// checkComes: on a device that has the old text, the patch that Make made comes to the new one, with or without loss of power.
func checkComes(t *testing.T, d *blocks.Dev, old, next string, draw drawer) {
	t.Helper()
	if has := textOf(d, len(old)); has != old {
		t.Fatalf("the test is wrong: the device has %q, not the old text %q", has, old)
	}
	patch := makeOf(old, next)
	for draw.IntN(2) == 0 {
		d.Die(draw.IntN(12))
		e := place.Do(d, patch)
		if e != api.OK && (e != api.ErrDev || !d.Dead()) {
			t.Fatalf("P12: from %q to %q: Do = %d", old, next, e)
		}
		draw.power(d)
	}
	e := place.Do(d, patch)
	if has := textOf(d, len(next)); e != api.OK || has != next {
		t.Fatalf("P12: from %q to %q: Do = %d; the text is %q", old, next, e, has)
	}
}

func TestP12BehindAPatchOfTheSameSums(t *testing.T) {
	z := "\x17+\x18*\x19)\x1a(\x1b'!"
	d := blocks.New(500, "!!"+z)
	checkComes(t, d, "!!"+z, "!"+z+"!", newDrawer(0))
	checkComes(t, d, "!"+z+"!", z+"!!", newDrawer(0))
	for seed := range 1500 {
		draw := newDrawer(seed)
		ahead, behind := draw.text(draw.IntN(40)), draw.text(draw.IntN(40))
		list := draw.shifts(ahead, behind, 1+draw.IntN(20), 3+draw.IntN(3))
		if draw.IntN(2) == 0 {
			for i, j := 0, len(list)-1; i < j; i, j = i+1, j-1 {
				list[i], list[j] = list[j], list[i]
			}
		}
		d := blocks.New(500, list[0])
		for k := range 2 * len(list) {
			checkComes(t, d, list[k%len(list)], list[(k+1)%len(list)], draw)
		}
	}
}

// A device has an old text, if this stands in its place, whatever stands behind that.
func TestP12BehindAPatchOfAnotherLength(t *testing.T) {
	for seed := range 1000 {
		draw := newDrawer(seed)
		list := draw.shifts(draw.text(draw.IntN(20)), "", 1+draw.IntN(11), 3)
		end := draw.text(1 + draw.IntN(40))
		longer := blocks.New(500, list[0])
		checkComes(t, longer, list[0], list[1]+end, draw)
		checkComes(t, longer, list[1], list[2]+end, draw)
		shorter := blocks.New(500, list[0]+end)
		checkComes(t, shorter, list[0]+end, list[1], draw)
		if has := textOf(shorter, len(list[1]+end)); has == list[1]+end {
			checkComes(t, shorter, list[1]+end, list[2], draw)
		}
	}
}

// alike are texts of which the second comes out of the first by the same patch as the fourth out of the third. The block in which the middle begins makes the third one, if it is written ahead of the first that differs.
func (d drawer) alike() []string {
	at := blocks.Size * (1 + d.IntN(3))
	middle, between, end := d.evenly(10)+"!", d.text(d.IntN(11)), d.text(20)
	front := d.text(at - 1 - len(between))
	return []string{
		front + "1" + between + "!!" + middle + end,
		front + "2" + between + "!" + middle + "!" + end,
		front + "1" + between + "!" + middle + "!" + end,
		front + "2" + between + middle + "!!" + end,
	}
}

// A text that is partly written is no old text of the patch that is begun, nor is one that is all written.
func TestP12BehindAPatchThatWasBegun(t *testing.T) {
	for seed := range 150 {
		texts := newDrawer(seed).alike()
		checkWhereverItStops(t, texts, blocks.New(len(texts[0]), texts[0]), seed < 8)
	}
}

// Who has just written the old text, where another one of the same patch stood, and made nothing sure: the patch is begun only on a text that is sure.
func TestP12BehindATextThatWasNotSure(t *testing.T) {
	for seed := range 50 {
		texts := newDrawer(seed).alike()
		d := blocks.New(len(texts[2]), texts[2])
		if !d.WriteText(0, texts[0]) {
			t.Fatal("the test is wrong")
		}
		checkWhereverItStops(t, texts, d, seed < 3)
	}
}

// checkWhereverItStops lets the power go at each call that the patch from the first text to the second makes, and each choice of blocks stay; and, if it is to stop twice, come back with nothing lost and go at each call again.
func checkWhereverItStops(t *testing.T, texts []string, begin *blocks.Dev, twice bool) {
	t.Helper()
	patch := makeOf(texts[0], texts[1])
	if patch != makeOf(texts[2], texts[3]) {
		t.Fatal("the test is wrong: these should have the same patch")
	}
	for e, k := api.ErrDev, 0; e != api.OK; k++ {
		d := begin.Copy()
		d.Die(k)
		e = place.Do(d, patch)
		checkWhateverStays(t, texts, d)
		for more := 1; twice && more < 10; more++ {
			c := d.Copy()
			c.Die(more)
			place.Do(c, patch)
			checkWhateverStays(t, texts, c)
		}
	}
}

func checkWhateverStays(t *testing.T, texts []string, d *blocks.Dev) {
	t.Helper()
	for keep := range 1 << (d.Len()/blocks.Size + 1) {
		c := d.Copy()
		c.Power([]int{keep * 31, keep, keep >> 1, keep >> 2, keep >> 3, keep >> 4, keep >> 5})
		checkHas(t, c, texts)
	}
}

// checkHas: whichever text the device has, a patch from it to whichever other one is either refused, or comes to that.
func checkHas(t *testing.T, d *blocks.Dev, texts []string) {
	t.Helper()
	for _, old := range texts {
		for _, next := range texts {
			c := d.Copy()
			if textOf(c, len(old)) != old {
				continue
			}
			e := place.Do(c, makeOf(old, next))
			if e != api.ErrOld && (e != api.OK || textOf(c, len(next)) != next) {
				t.Fatalf("P12: on a device that has %q, to %q: Do = %d; the text is %q", old, next, e, textOf(c, len(next)))
			}
		}
	}
}
