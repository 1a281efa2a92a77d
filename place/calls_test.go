package place_test

import (
	"math"
	"slices"
	"strings"
	"sync"
	"testing"
	"unsafe"

	"tailor/api"
	"tailor/blocks"
	"tailor/place"
)

func oddTexts() []string {
	list := []string{"", "T", "TLRI", strings.Repeat("TLRI", 50), strings.Repeat("\x00", 5000), strings.Repeat("\xff", 5000), strings.Repeat("\x80", 5000), makeOf("abcd", "cdab")}
	for b := range 256 {
		list = append(list, byteOf(b), "TLRI"+strings.Repeat(byteOf(b), 12), "TLRI\x00\x00\x00\x00\x01\x00\x00\x00\x00\x01"+strings.Repeat(byteOf(b), 30), "TLRI\x01\x00\x00\x00\x01\x01\x00\x00\x00\x00\x01\x03"+strings.Repeat(byteOf(b), 3))
	}
	return list
}

func TestP1NoCallPanicsAndErrorsStandAlone(t *testing.T) {
	for _, text := range oddTexts() {
		if p, e := place.Read(text); e != api.OK && !samePlan(p, api.Plan{}) {
			t.Errorf("P1: Read(%.60q) = %v beside the error %d", text, p, e)
		}
		for _, old := range []string{"", "abcd", text, strings.Repeat("o", 4001)} {
			if patch, e := place.Make(old, text); e != api.OK && patch != "" {
				t.Errorf("P1: Make(%.60q, %.60q) = %.60q beside the error %d", old, text, patch, e)
			}
		}
		for _, d := range []*blocks.Dev{nil, {}, blocks.New(0, ""), blocks.New(-5, ""), blocks.New(4, "abcd"), blocks.New(9000, text)} {
			place.Do(d, text)
		}
	}
}

func TestP1PlansOfAnyNumbers(t *testing.T) {
	numbers := []int{math.MinInt, math.MinInt + 1, -1, 0, 1, 2, 3, 4, 3999, 4000, 4001, math.MaxInt32, 1 << 32, math.MaxInt - 1, math.MaxInt}
	draw := newDrawer(77)
	any := func() int { return numbers[draw.IntN(len(numbers))] }
	for range 50000 {
		p := api.Plan{OldLen: any(), NewLen: any(), OldSum: "old.", NewSum: "new."}
		if draw.IntN(2) == 0 {
			p.OldLen, p.NewLen = draw.IntN(5), draw.IntN(5)
		}
		for range draw.IntN(4) {
			p.Steps = append(p.Steps, api.Step{Kind: []int{1, 3, any()}[draw.IntN(3)], To: any(), Size: any(), Data: "data"[:draw.IntN(5)], From: any()})
		}
		patch, e := place.Write(p)
		if e != api.OK && patch != "" {
			t.Errorf("P1: Write(%v) = %q beside the error %d", p, patch, e)
		}
		if e == api.OK {
			checkRead(t, "written", patch, p, api.OK)
		}
	}
}

// What lies in the log need not be what Do has laid there.
func TestP1LogsOfOthers(t *testing.T) {
	patch := makeOf("abcd", "cdab")
	whole := blocks.New(8, "abcd")
	place.Do(whole, patch)
	log, _ := whole.ReadLog()
	for at := range len(log) + 1 {
		for _, junk := range append(oddTexts()[:20], log, log[:1], strings.Repeat(log[:1], 40)) {
			d := blocks.New(8, "abcd")
			d.Log(log[:at] + junk)
			place.Do(d, patch)
			small := blocks.New(2, "ab")
			small.Log(log[:at] + junk)
			place.Do(small, patch)
		}
	}
}

func TestP2AnswersDependOnArgumentsAlone(t *testing.T) {
	type pair struct{ old, next, patch string }
	var list []pair
	for seed := range 60 {
		old, next := pairs(seed, 300)
		list = append(list, pair{old, next, makeOf(old, next)})
	}
	var wait sync.WaitGroup
	for start := range 8 {
		wait.Go(func() {
			for k := range list {
				p := list[(k*(2*start+1))%len(list)]
				if patch, e := place.Make(p.old, p.next); patch != p.patch || e != api.OK {
					t.Errorf("P2: Make at the same time = %q, %d, want %q, OK", patch, e, p.patch)
				}
				want, _ := slowRead(p.patch)
				checkRead(t, "at the same time", p.patch, want, api.OK)
				checkWrite(t, "at the same time", want, p.patch, api.OK)
				d := blocks.New(300, p.old)
				checkDo(t, "at the same time", d, p.patch, api.OK)
				checkText(t, "at the same time", d, p.next)
			}
		})
	}
	wait.Wait()
}

// Two devices with the same on them have the same on them behind the call too.
func TestP2WhatDoDoesDependsOnTheDeviceAlone(t *testing.T) {
	for k := range 10 {
		d := blocks.New(50, "an old text that stands here")
		d.Die(k)
		c := d.Copy()
		patch := makeOf("an old text that stands here", "here stands another text")
		if e, f := place.Do(d, patch), place.Do(c, patch); e != f {
			t.Errorf("P2: Do answers %d, then %d", e, f)
		}
		d.Power([]int{1000, 1, 0, 1})
		c.Power([]int{1000, 1, 0, 1})
		log, _ := d.ReadLog()
		other, _ := c.ReadLog()
		if log != other || textOf(d, 50) != textOf(c, 50) {
			t.Errorf("P2: Do does other things to the same device: %q, %q", log, other)
		}
	}
}

func TestP2WhatIsHandedOutIsNotKept(t *testing.T) {
	want := planOf("abcd", "cdab", copyOf(0, 2, 2), add(2, "ab"))
	p, _ := place.Read(patchOf(want))
	spare := p.Steps[:cap(p.Steps)]
	for i := range spare {
		spare[i] = api.Step{Kind: 99, To: 99, Size: 99, Data: "?", From: 99}
	}
	checkRead(t, "again", patchOf(want), want, api.OK)
}

// shares tells whether a text lies within another one's memory.
func shares(text, within string) bool {
	if text == "" || within == "" {
		return false
	}
	at, begin := uintptr(unsafe.Pointer(unsafe.StringData(text))), uintptr(unsafe.Pointer(unsafe.StringData(within)))
	return begin <= at && at < begin+uintptr(len(within))
}

func TestP2WhatIsHandedInIsNotKept(t *testing.T) {
	data := strings.Repeat("data", 10)
	patch := patchOf(planOf("", data, add(0, data)))
	p, _ := place.Read(patch)
	if len(p.Steps) != 1 || shares(p.Steps[0].Data, patch) || shares(p.OldSum, patch) || shares(p.NewSum, patch) {
		t.Errorf("P2: Read = %v, of which some is a piece of the patch", p)
	}
	d := blocks.New(100, "")
	place.Do(d, patch)
	if log, _ := d.ReadLog(); shares(log, patch) {
		t.Errorf("P2: the log is a piece of the patch")
	}
}

// A list without steps may be nil or not; what stands behind one is of no matter, and stays.
func TestP2ListsThatComeIn(t *testing.T) {
	for _, steps := range [][]api.Step{nil, {}, make([]api.Step, 0, 9)} {
		checkPlan(t, "no steps", planOf("old", "", steps...))
	}
	all := []api.Step{copyOf(0, 2, 2), add(2, "ab"), add(7, "behind")}
	before := slices.Clone(all)
	checkPlan(t, "a piece of a list", planOf("abcd", "cdab", all[:2]...))
	if !slices.Equal(all, before) {
		t.Errorf("P2: what stands behind the list was written into: %v", all)
	}
}
