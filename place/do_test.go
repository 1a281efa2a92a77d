package place_test

import (
	"strings"
	"testing"

	"tailor/api"
	"tailor/blocks"
	"tailor/code"
	"tailor/place"
)

func checkDo(t *testing.T, name string, d *blocks.Dev, patch string, want api.Errno) {
	t.Helper()
	if e := place.Do(d, patch); e != want {
		t.Errorf("P11: %s: Do = %d, want %d", name, e, want)
	}
}

func textOf(d *blocks.Dev, size int) string {
	text, _ := d.ReadText(0, size)
	return text
}

func checkText(t *testing.T, name string, d *blocks.Dev, want string) {
	t.Helper()
	if text := textOf(d, len(want)); text != want {
		t.Errorf("P11: %s: the text is %q, want %q", name, text, want)
	}
}

// isDone: there is nothing to do but to make sure of the log, so that power for one call is enough.
func isDone(d *blocks.Dev, patch string) bool {
	c := d.Copy()
	c.Die(1)
	return place.Do(c, patch) == api.OK
}

// checkSure: whatever is not sure is lost, and the text stands there still, and its patch is done.
func checkSure(t *testing.T, name string, d *blocks.Dev, patch, want string) {
	t.Helper()
	c := d.Copy()
	c.Power(nil)
	checkText(t, name, c, want)
	if !isDone(c, patch) {
		t.Errorf("P11: %s: that it is done is not sure", name)
	}
}

func makeOf(old, next string) string {
	patch, e := place.Make(old, next)
	if e != api.OK {
		panic("this test makes a patch that may not be")
	}
	return patch
}

func TestP11APatchIsDone(t *testing.T) {
	one := patchOf(planOf("abcd", "cdab", copyOf(0, 2, 2), add(2, "ab")))
	two := patchOf(planOf("cdab", "xcdabx", copyOf(1, 4, 0), add(0, "x"), add(5, "x")))
	three := patchOf(planOf("xcdabx", "ab", copyOf(0, 2, 3)))
	d := blocks.New(6, "abcd")
	for range 2 {
		checkDo(t, "the first", d, one, api.OK)
		checkText(t, "the first", d, "cdab")
		checkSure(t, "the first", d, one, "cdab")
	}
	checkDo(t, "longer", d, two, api.OK)
	checkText(t, "longer", d, "xcdabx")
	checkSure(t, "longer", d, two, "xcdabx")
	checkDo(t, "shorter", d, three, api.OK)
	checkText(t, "shorter", d, "ab")
	checkSure(t, "shorter", d, three, "ab")
	checkDo(t, "one that was done, but not last", d, one, api.ErrOld)
	checkText(t, "one that was done, but not last", d, "ab")
}

func TestP11ThereAndBack(t *testing.T) {
	d := blocks.New(100, "here")
	there, back := makeOf("here", "there and everywhere"), makeOf("there and everywhere", "here")
	for range 5 {
		checkDo(t, "there", d, there, api.OK)
		checkText(t, "there", d, "there and everywhere")
		checkDo(t, "there again", d, there, api.OK)
		checkText(t, "there again", d, "there and everywhere")
		checkDo(t, "back", d, back, api.OK)
		checkText(t, "back", d, "here")
	}
}

func TestP11NoDeviceAndNoPatch(t *testing.T) {
	good := makeOf("abcd", "cdab")
	wrong := patchOf(planOf("abcd", "cdab", copyOf(0, 2, 2), copyOf(2, 2, 0)))
	checkDo(t, "no device", nil, good, api.ErrArg)
	checkDo(t, "no device, no patch", nil, "", api.ErrArg)
	checkDo(t, "no device, no order", nil, wrong, api.ErrArg)
	d := blocks.New(4, "abcd")
	dead := d.Copy()
	dead.Die(0)
	for name, c := range map[string]struct {
		patch string
		want  api.Errno
	}{
		"nothing":         {"", api.ErrForm},
		"a mark":          {"TLRI", api.ErrForm},
		"cut off":         {good[:len(good)-1], api.ErrForm},
		"of delta":        {"TLR1" + good[4:], api.ErrForm},
		"of no order":     {wrong, api.ErrOrder},
		"with some bytes": {good + "\x00", api.ErrForm},
	} {
		checkDo(t, name, d, c.patch, c.want)
		checkDo(t, name+", no power", dead, c.patch, c.want)
		checkDo(t, name+", a device of nothing", &blocks.Dev{}, c.patch, c.want)
	}
	checkText(t, "no patch", d, "abcd")
	checkDo(t, "behind those", d, good, api.OK)
}

func TestP11NoPower(t *testing.T) {
	good, other := makeOf("abcd", "cdab"), makeOf("dcba", "cdab")
	d := blocks.New(4, "abcd")
	d.Die(0)
	checkDo(t, "no power", d, good, api.ErrDev)
	checkDo(t, "no power, another old text", d, other, api.ErrDev)
	checkDo(t, "no power, no place", d, makeOf("abcd", "abcdabcd"), api.ErrDev)
	checkDo(t, "no device of New", &blocks.Dev{}, good, api.ErrDev)
	d.Power(nil)
	checkDo(t, "power again", d, good, api.OK)
	d.Die(0)
	checkDo(t, "done, no power", d, good, api.ErrDev)
}

func TestP11AnotherOldText(t *testing.T) {
	for name, c := range map[string]struct {
		size           int
		has, old, next string
	}{
		"another text":                  {4, "abcd", "abce", "cdab"},
		"no place for the old one":      {4, "abcd", "abcde", "cdab"},
		"no place for the new one":      {4, "abcd", "abcd", "abcda"},
		"no place for either":           {4, "abcd", "abcde", "abcdef"},
		"no place for the old, nothing": {4, "abcd", "abcde", ""},
		"nothing, no place for the new": {4, "abcd", "", "abcde"},
		"an old one that is longer":     {9, "abcd", "abcd\x00x", "cdab"},
		"nothing on no place":           {0, "", "", "a"},
	} {
		d := blocks.New(c.size, c.has)
		checkDo(t, name, d, makeOf(c.old, c.next), api.ErrOld)
		checkText(t, name, d, c.has)
		checkDo(t, name+", then one that fits", d, makeOf(c.has, ""), api.OK)
	}
	for name, c := range map[string]struct {
		size           int
		has, old, next string
	}{
		"just the place":            {4, "abcd", "abcd", "dcba"},
		"more place":                {90, "abcd", "abcd", "cdab and more"},
		"the front of the text":     {9, "abcdefgh", "abc", "cba"},
		"nothing of the text":       {9, "abcdefgh", "", "cba"},
		"bytes that are 0":          {9, "abcd", "abcd\x00", "cba"},
		"nothing becomes nothing":   {0, "", "", ""},
		"something becomes nothing": {4, "abcd", "abcd", ""},
		"the same":                  {4, "abcd", "abcd", "abcd"},
		"the longest":               {4000, random(1, 4000), random(1, 4000), random(2, 4000)},
	} {
		d := blocks.New(c.size, c.has)
		patch := makeOf(c.old, c.next)
		checkDo(t, name, d, patch, api.OK)
		checkText(t, name, d, c.next)
		checkSure(t, name, d, patch, c.next)
	}
}

// begun is a device on which a patch was begun, and the power is there again.
func begun(t *testing.T, size int, text, patch string) *blocks.Dev {
	t.Helper()
	for k := range 100 {
		d := blocks.New(size, text)
		d.Die(k)
		place.Do(d, patch)
		d.Power(nil)
		if other := d.Copy(); place.Do(other, makeOf(text, text+"")) == api.ErrOld && textOf(d, len(text)) == text {
			return d
		}
	}
	t.Fatal("P11: there is no time at which it is begun, and nothing else")
	return nil
}

func TestP11APatchThatWasBegun(t *testing.T) {
	one := makeOf("abcd", "cdab")
	d := begun(t, 8, "abcd", one)
	for name, patch := range map[string]string{
		"of the same texts":        patchOf(planOf("abcd", "cdab", add(0, "cd"), add(2, "ab"))),
		"of the same texts, again": patchOf(planOf("abcd", "cdab", copyOf(0, 2, 2), add(2, "ab"))),
		"of the same old text":     makeOf("abcd", "dcba"),
		"of the new text":          makeOf("cdab", "abcd"),
		"of nothing":               makeOf("", ""),
		"of too long a text":       makeOf("abcdabcdabcd", ""),
	} {
		checkDo(t, name, d, patch, api.ErrOld)
	}
	checkText(t, "others", d, "abcd")
	checkDo(t, "no patch", d, "", api.ErrForm)
	checkDo(t, "itself", d, one, api.OK)
	checkText(t, "itself", d, "cdab")
	checkSure(t, "itself", d, one, "cdab")
	checkDo(t, "another one then", d, makeOf("cdab", "abcdabcd"), api.OK)
	checkText(t, "another one then", d, "abcdabcd")
}

// twisted is another text of the same length and the same sum.
func twisted(text string, at int) string {
	bytes := []byte(text)
	bytes[at]++
	bytes[at+1] -= 2
	bytes[at+2]++
	return string(bytes)
}

// A patch is known by all its bytes, not by its sum.
func TestP11PatchesOfTheSameSum(t *testing.T) {
	next := "this is the new text"
	one := patchOf(planOf("abcd", next, add(0, next)))
	other := patchOf(planOf("abcd", twisted(next, 4), add(0, twisted(next, 4))))
	if one == other || len(one) != len(other) || code.Sum(one) != code.Sum(other) || code.Sum(next) != code.Sum(twisted(next, 4)) {
		t.Fatal("the test is wrong: these should have the same sum")
	}
	d := begun(t, 40, "abcd", one)
	checkDo(t, "another one of the sum of that which was begun", d, other, api.ErrOld)
	checkDo(t, "that which was begun", d, one, api.OK)
	checkDo(t, "another one of the sum of that which was done", d, other, api.ErrOld)
	checkText(t, "that which was done", d, next)
	same := patchOf(planOf(next, next, copyOf(0, len(next), 0)))
	checkDo(t, "one that leaves it", d, same, api.OK)
	checkDo(t, "one of the first, whose old text is not there", d, one, api.ErrOld)
}

// The sum is what the old text is known by; what comes out of another one of its sum may have another sum than the new text.
func TestP11AnotherOldTextOfTheSameSum(t *testing.T) {
	old := "0123456789abcdef0123456789"
	next := old[13:] + old[:3] + old[6:13]
	patch := patchOf(planOf(old, next, copyOf(0, 13, 13), add(13, old[:3]), add(16, old[6:13])))
	d := blocks.New(40, twisted(old, 11)) // which is parted
	checkDo(t, "another old text of the same sum", d, patch, api.ErrSum)
	checkText(t, "all steps are done", d, twisted(old, 11)[13:]+next[13:])
	plain := blocks.New(40, twisted(old, 1)) // which is not copied
	checkDo(t, "another old text of the same sum, but for what is copied", plain, patch, api.OK)
	checkText(t, "all steps are done", plain, next)
}

func TestP11AnotherNewSum(t *testing.T) {
	p := planOf("abcd", "cdab", copyOf(0, 2, 2), add(2, "ab"))
	p.NewSum = code.Sum("cdaB")
	patch := patchOf(p)
	for k := range 20 {
		d := blocks.New(8, "abcd")
		d.Die(k)
		e := place.Do(d, patch)
		if e != api.ErrSum && (e != api.ErrDev || !d.Dead()) {
			t.Fatalf("P11: Do of another sum, the power goes behind %d calls: %d", k, e)
		}
		d.Power(nil)
		for range 3 {
			if e == api.ErrSum { // it is surely begun then, ahead of which it may be or not
				checkDo(t, "another one", d, makeOf("abcd", "x"), api.ErrOld)
				checkDo(t, "another one of what is there", d, makeOf("cdab", "x"), api.ErrOld)
			}
			e = place.Do(d, patch)
			if e != api.ErrSum {
				t.Fatalf("P11: Do of another sum, again: %d", e)
			}
			checkText(t, "all steps are done", d, "cdab")
			d.Power(nil)
		}
	}
}

// Who has just written the old text, and made nothing sure.
func TestP11TheOldTextIsNotSure(t *testing.T) {
	for _, next := range []string{"this was not sure", "which is another text", "this"} {
		patch := makeOf("this was not sure", next)
		for k := range 20 {
			d := blocks.New(40, "something else stood here")
			if !d.WriteText(0, "this was not sure") {
				t.Fatal("the test is wrong")
			}
			d.Die(k)
			e := place.Do(d, patch)
			if e == api.OK {
				checkSure(t, "not sure", d, patch, next)
				continue
			}
			if e != api.ErrDev || !d.Dead() {
				t.Fatalf("P11: Do = %d", e)
			}
			d.Power(nil)
			if e := place.Do(d, patch); e != api.OK && e != api.ErrOld {
				t.Fatalf("P11: Do again = %d", e)
			} else if e == api.OK {
				checkSure(t, "not sure, the power went", d, patch, next)
			} else {
				checkText(t, "not begun", d, "something else stood here")
			}
		}
	}
}

// play is what there is to try the power with: a patch that was done ahead, one that is tried, and others.
type play struct {
	size                     int
	before, old, next        string
	first, patch, other, end string
}

func newPlay(size int, before, old, next string) play {
	return play{size: size, before: before, old: old, next: next, first: makeOf(before, old), patch: makeOf(old, next), other: makeOf(old, strings.Repeat("?", min(size, 9))), end: makeOf(next, old)}
}

func (p play) device(t *testing.T) *blocks.Dev {
	t.Helper()
	d := blocks.New(p.size, p.before)
	checkDo(t, "the one ahead", d, p.first, api.OK)
	checkText(t, "the one ahead", d, p.old)
	return d
}

// checkHalfway: the power went in the midst of the patch, and came back: it is begun, and perhaps done, or nothing of it is done.
func (p play) checkHalfway(t *testing.T, d *blocks.Dev) {
	t.Helper()
	if isDone(d, p.patch) {
		checkText(t, "it is done", d, p.next)
		return
	}
	first, other := place.Do(d.Copy(), p.first), place.Do(d.Copy(), p.other)
	switch {
	case first == api.OK && other == api.OK:
		checkText(t, "nothing is done", d, p.old)
	case first != api.ErrOld || other != api.ErrOld:
		t.Fatalf("P11: the power went: the one ahead %d, another one %d: want both OK or both ErrOld", first, other)
	}
}

// checkEnd: the power is there: it comes to its end.
func (p play) checkEnd(t *testing.T, d *blocks.Dev) {
	t.Helper()
	checkDo(t, "to the end", d, p.patch, api.OK)
	checkText(t, "to the end", d, p.next)
	checkSure(t, "to the end", d, p.patch, p.next)
	if p.next != p.old {
		checkDo(t, "back", d, p.end, api.OK)
		checkText(t, "back", d, p.old)
	}
	if t.Failed() {
		t.FailNow()
	}
}

func plays() []play {
	long := "a text that has more than two blocks, and a bit"
	return []play{
		newPlay(48, "before", long, long[20:]+"!"+long[:20]),
		newPlay(48, "before that", long, "x"+long),
		newPlay(48, long, "short", "another one"+long[:30]),
		newPlay(33, "", "old text", "new text, old text"),
		newPlay(20, "one more", "some text", ""),
		newPlay(48, "any", long, long[:16]+"other"+long[21:]),
	}
}

// Wherever the power goes, and whatever stays: each number of bytes of the log, and each choice of blocks.
func TestP11WhereverThePowerGoes(t *testing.T) {
	for _, p := range plays() {
		for k := 0; ; k++ {
			d := p.device(t)
			d.Die(k)
			e := place.Do(d, p.patch)
			if e == api.OK {
				checkSure(t, "it was enough", d, p.patch, p.next)
			} else if e != api.ErrDev || !d.Dead() {
				t.Fatalf("P11: the power goes behind %d calls: %d", k, e)
			}
			if e == api.OK && !d.Dead() {
				break
			}
			for keep := range 8 * 150 {
				c := d.Copy()
				c.Power([]int{keep / 8, keep, keep >> 1, keep >> 2})
				if e == api.ErrDev {
					p.checkHalfway(t, c)
				}
				p.checkEnd(t, c)
			}
		}
	}
}

func (d drawer) keep() []int {
	list := make([]int, d.IntN(8))
	for i := range list {
		list[i] = d.IntN(400) - 100
	}
	return list
}

// power brings it back: mostly what is not sure may be lost, at times nothing is, and nothing is made sure.
func (d drawer) power(dev *blocks.Dev) {
	if d.IntN(3) == 0 {
		dev.Die(plenty)
	} else {
		dev.Power(d.keep())
	}
}

func TestP11ThePowerGoesAgainAndAgain(t *testing.T) {
	for seed := range 3000 {
		draw := newDrawer(seed)
		p := plays()[draw.IntN(len(plays()))]
		d := p.device(t)
		for range draw.IntN(12) {
			p.tryOther(t, d, draw)
			d.Die(draw.IntN(10))
			e := place.Do(d, p.patch)
			if e != api.OK && (e != api.ErrDev || !d.Dead()) {
				t.Fatalf("P11: Do = %d", e)
			}
			draw.power(d)
			p.checkHalfway(t, d)
		}
		p.checkEnd(t, d)
	}
}

// tryOther tries another patch, if it may be begun, but the power goes ahead of that: some of the log may stay.
func (p play) tryOther(t *testing.T, d *blocks.Dev, draw drawer) {
	t.Helper()
	if isDone(d, p.patch) || place.Do(d.Copy(), p.other) != api.OK || draw.IntN(2) == 0 {
		return
	}
	c := d.Copy()
	c.Die(1 + draw.IntN(3))
	checkDo(t, "another one", c, p.other, api.ErrDev)
	c.Power([]int{draw.IntN(40)})
	if place.Do(c.Copy(), p.first) == api.OK { // else it is begun, and this is no way to go
		*d = *c
	}
}

// Each time there is power for four calls only, and little or nothing stays that is not sure: two to make sure of what was found, one to get further, one to make sure of that.
func TestP11LittlePowerIsEnough(t *testing.T) {
	for _, p := range plays() {
		for _, keep := range [][]int{nil, {1}, {7, 1, 0, 1}, {0, 1, 1, 1}} {
			d := p.device(t)
			done := false
			for tries := 0; !done; tries++ {
				if tries > 10 {
					t.Fatalf("P11: it comes to no end on little power")
				}
				d.Die(4)
				done = place.Do(d, p.patch) == api.OK
				d.Power(keep)
			}
			p.checkEnd(t, d)
		}
	}
}

// One device, many patches.
func TestP11OneBehindTheOther(t *testing.T) {
	draw := newDrawer(12)
	text := draw.text(100)
	d := blocks.New(300, text)
	for range 200 {
		next := draw.edited(text, 3, 300)
		patch := makeOf(text, next)
		for {
			d.Die(draw.IntN(12))
			e := place.Do(d, patch)
			if e != api.OK && (e != api.ErrDev || !d.Dead()) {
				t.Fatalf("P11: Do = %d", e)
			}
			draw.power(d)
			if e == api.OK {
				break
			}
		}
		checkText(t, "one behind the other", d, next)
		checkSure(t, "one behind the other", d, patch, next)
		text = next
	}
}
