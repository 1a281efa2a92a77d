package place_test

import (
	"testing"

	"tailor/api"
	"tailor/blocks"
	"tailor/code"
	"tailor/place"
)

const (
	few    = 12      // more calls than a Do has
	plenty = 1 << 30 // more calls than a test has
)

// stopped is a copy of a device on which the power went behind so many calls of a patch and came back, and of what was not sure nothing is lost, and nothing is sure.
func stopped(d *blocks.Dev, patch string, calls int) *blocks.Dev {
	c := d.Copy()
	c.Die(calls)
	place.Do(c, patch)
	c.Die(plenty)
	return c
}

// lost is a copy of a device that has lost all that was not sure.
func lost(d *blocks.Dev) *blocks.Dev {
	c := d.Copy()
	c.Power(nil)
	return c
}

func TestP11OKIsSureWhateverTheLogWas(t *testing.T) {
	for _, p := range plays() {
		for k := range few {
			d := stopped(p.device(t), p.patch, k)
			checkDo(t, "again", d, p.patch, api.OK)
			checkText(t, "again", d, p.next)
			checkSure(t, "again", d, p.patch, p.next)
			p.checkEnd(t, lost(d))
		}
	}
}

// checkAnswer: with all lost that was not sure, the answer is the same.
func checkAnswer(t *testing.T, name string, d *blocks.Dev, patch string, want api.Errno) {
	t.Helper()
	checkDo(t, name+", what was not sure is lost", lost(d), patch, want)
}

// That another patch was begun is sure too, if it is answered.
func TestP11ErrOldIsSureWhateverTheLogWas(t *testing.T) {
	for _, p := range plays() {
		seen := map[api.Errno]int{}
		for k := range few {
			d := stopped(p.device(t), p.patch, k)
			done := isDone(d, p.patch)
			e := place.Do(d, p.other)
			seen[e]++
			if e != api.OK && e != api.ErrOld {
				t.Fatalf("P11: another one behind %d calls: %d", k, e)
			}
			checkAnswer(t, "another one", d, p.other, e)
			if e == api.OK {
				continue
			}
			if done && !isDone(lost(d), p.patch) {
				t.Errorf("P11: behind %d calls: another one was refused since it is done, which is not sure", k)
			}
			p.checkEnd(t, lost(d))
		}
		if seen[api.OK] == 0 || seen[api.ErrOld] == 0 {
			t.Errorf("only these were answered: %v", seen)
		}
	}
}

func TestP11ErrSumIsSurelyBegunWhateverTheLogWas(t *testing.T) {
	p := planOf("abcd", "cdab", copyOf(0, 2, 2), add(2, "ab"))
	p.NewSum = code.Sum("cdaB")
	patch := patchOf(p)
	for k := range few {
		d := stopped(blocks.New(8, "abcd"), patch, k)
		checkDo(t, "another sum", d, patch, api.ErrSum)
		checkText(t, "all steps are done, surely", lost(d), "cdab")
		checkAnswer(t, "another sum", d, patch, api.ErrSum)
		checkAnswer(t, "another one", d, makeOf("abcd", "x"), api.ErrOld)
		checkAnswer(t, "another one of what is there", d, makeOf("cdab", "x"), api.ErrOld)
	}
}

// The power goes behind so many calls, comes back with nothing lost, and goes again: then it is begun, or nothing of it is done, whatever stays.
func TestP11ThePowerGoesTwiceWithNothingLostBetween(t *testing.T) {
	for _, p := range plays() {
		begin := p.device(t)
		for k := range few {
			for more := range few {
				d := stopped(begin, p.patch, k)
				d.Die(more)
				e := place.Do(d, p.patch)
				if e != api.OK && (e != api.ErrDev || !d.Dead()) {
					t.Fatalf("P11: the power goes behind %d calls, then behind %d: %d", k, more, e)
				}
				for keep := range 8 * 6 {
					c := d.Copy()
					c.Power([]int{keep / 8 * 13, keep, keep >> 1, keep >> 2})
					if e == api.ErrDev {
						p.checkHalfway(t, c)
					}
					p.checkEnd(t, c)
				}
			}
		}
	}
}

// What the power has cut off is no part of what the log tells, also if more is cut off behind it.
func TestP11WhatWasCutOffAgainAndAgain(t *testing.T) {
	for _, p := range plays() {
		d := p.device(t)
		for k := range 40 {
			d.Die(1 + k%3)
			checkDo(t, "cut off", d, p.patch, api.ErrDev)
			d.Power([]int{1 + k%15}) // less than a record
			checkAnswer(t, "the one ahead", d, p.first, api.OK)
		}
		p.checkEnd(t, d)
	}
}

func TestP12TheLogWasNotSure(t *testing.T) {
	one, two := "abcdefghijklmnopqrstuvwxyz0123456789ABCD", "abcdefghijklmnopqrstuvwxyz0123456789ABCE"
	there, back := makeOf(one, two), makeOf(two, one)
	for k := range few {
		d := stopped(blocks.New(100, one), there, k)
		checkDo(t, "there", d, there, api.OK)
		d.Power(nil)
		checkDo(t, "back", d, back, api.OK)
		checkText(t, "back", d, one)
		for more := range few {
			d := stopped(blocks.New(100, one), there, k)
			d.Die(more)
			place.Do(d, there)
			d.Power(nil)
			checkDo(t, "there, with power", d, there, api.OK)
			checkText(t, "there, with power", d, two)
		}
	}
}
