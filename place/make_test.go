package place_test

import (
	"strings"
	"testing"

	"tailor/api"
	"tailor/code"
	"tailor/place"
)

// checkMake holds a patch to all that P10 says of it, and to the order that the document's section 'Ways' asks for; it answers the steps and the patch.
func checkMake(t *testing.T, old, next string) ([]api.Step, string) {
	t.Helper()
	patch, e := place.Make(old, next)
	p, f := slowRead(patch)
	if e != api.OK || f != api.OK {
		t.Fatalf("P10: Make(%q, %q) = %q, %d, which reads as %d", old, next, patch, e, f)
	}
	if p.OldLen != len(old) || p.NewLen != len(next) || p.OldSum != code.Sum(old) || p.NewSum != code.Sum(next) {
		t.Fatalf("P10: Make(%q, %q) tells of other texts: %v", old, next, p)
	}
	if made := doSteps(old, p); made != next {
		t.Fatalf("P10: Make(%q, %q) makes %q", old, next, made)
	}
	most := 60 + 2*len(next)
	if old == next {
		most = 60
	}
	if len(patch) > most {
		t.Fatalf("P10: Make(%q, %q) has %d bytes, want at most %d", old, next, len(patch), most)
	}
	checkFirstPlaces(t, p.Steps)
	checkAdds(t, p.Steps)
	checkNotBehindItself(t, old, next, p)
	checkRead(t, "made", patch, p, api.OK)
	return p.Steps, patch
}

// checkFirstPlaces: each step is, of those that may come next, that which goes to the first place.
func checkFirstPlaces(t *testing.T, steps []api.Step) {
	t.Helper()
	for k, s := range steps {
		free := 0 // the first turn at which it might come: behind the last Copy that comes from where it goes
		for i, x := range steps {
			if i != k && x.Kind == api.Copy && x.From < s.To+s.Size && s.To < x.From+x.Size {
				free = i + 1
			}
		}
		for _, ahead := range steps[free:k] {
			if ahead.To > s.To {
				t.Fatalf("Ways: of the steps %v, %v might come ahead of %v", steps, s, ahead)
			}
		}
	}
}

// checkAdds: what could be one Add is one.
func checkAdds(t *testing.T, steps []api.Step) {
	t.Helper()
	ends := map[int]int{}
	for _, s := range steps {
		if s.Kind == api.Add {
			ends[s.To+s.Size]++
		}
	}
	for _, s := range steps {
		if s.Kind == api.Add && ends[s.To] > 0 {
			t.Fatalf("P10: of the steps %v some adds are side by side", steps)
		}
	}
}

// checkNotBehindItself: on whatever text a patch was done, behind it the device has not the old text that Make was given, unless it has the new one too (P12): else the patch would be known as done where it is not. The text that it was done on is worked out byte by byte from what stands behind it.
func checkNotBehindItself(t *testing.T, old, next string, p api.Plan) {
	t.Helper()
	before := make([]int, p.OldLen) // bytes of it; -1: any
	for at := range before {
		before[at] = -1
		if at >= p.NewLen {
			before[at] = int(old[at])
		}
	}
	for _, s := range p.Steps {
		for i := range min(s.Size, p.OldLen-s.To) {
			want := int(old[s.To+i])
			switch {
			case s.Kind == api.Add && int(s.Data[i]) != want:
				return
			case s.Kind == api.Copy && before[s.From+i] != -1 && before[s.From+i] != want:
				return
			case s.Kind == api.Copy:
				before[s.From+i] = want
			}
		}
	}
	for _, s := range p.Steps {
		for i := range s.Size {
			if s.Kind == api.Copy && before[s.From+i] != int(next[s.To+i]) {
				t.Fatalf("P12: Make(%q, %q) has the steps %v, which may have made the old text out of another one", old, next, p.Steps)
			}
		}
	}
}

func copies(steps []api.Step) int {
	n := 0
	for _, s := range steps {
		if s.Kind == api.Copy {
			n++
		}
	}
	return n
}

// random is a text in which nothing comes twice.
func random(seed, size int) string {
	d := newDrawer(seed)
	bytes := make([]byte, size)
	for i := range bytes {
		bytes[i] = byte(d.IntN(256))
	}
	return string(bytes)
}

func TestP10MakeOfTheExample(t *testing.T) {
	checkMake(t, "abcd", "cdab")
	checkMake(t, "cdab", "abcd")
}

func TestP10MakeOfNothing(t *testing.T) {
	for _, text := range []string{"", "a", "\x00", random(1, 11), random(1, 12), random(1, 13), random(1, 4000)} {
		checkMake(t, text, "")
		checkMake(t, "", text)
	}
	if steps, patch := checkMake(t, "old", ""); len(steps) != 0 || patch != patchOf(planOf("old", "")) {
		t.Errorf("P10: of nothing there are the steps %v", steps)
	}
}

func TestP10TooLong(t *testing.T) {
	long := strings.Repeat("x", api.MaxText+1)
	for _, c := range [][2]string{{long, ""}, {"", long}, {long, long}, {long, long[1:]}, {long[1:], long}, {long + long, "a"}, {"a", long + long}} {
		if patch, e := place.Make(c[0], c[1]); patch != "" || e != api.ErrLong {
			t.Errorf("P10: Make of %d and %d bytes = %.40q, %d, want nothing, ErrLong", len(c[0]), len(c[1]), patch, e)
		}
	}
}

func TestP10TheGreatestTexts(t *testing.T) {
	one, other := random(2, api.MaxText), random(3, api.MaxText)
	checkMake(t, one, other)
	checkMake(t, one, one)
	checkMake(t, one, one[1:]+"x")
	checkMake(t, one, "x"+one[1:])
	checkMake(t, one, "x"+one[:3999])
	checkMake(t, one, strings.Repeat("\x00", api.MaxText))
	for _, kinds := range []string{"a", "ab", "abc"} {
		same := strings.Repeat(kinds, api.MaxText)[:api.MaxText]
		checkMake(t, same, same)
		checkMake(t, same, same[1:]+"a")
		checkMake(t, same, one)
		checkMake(t, one, same)
	}
}

func TestP10TheSameText(t *testing.T) {
	for size := range 300 {
		for _, text := range []string{random(size, size), strings.Repeat("s", size), strings.Repeat("stu", size)[:size]} {
			checkMake(t, text, text)
		}
	}
	for seed := range 100 {
		d := newDrawer(seed)
		text := d.text(d.IntN(api.MaxText + 1))
		checkMake(t, text, text)
	}
}

func TestP10AllShortTexts(t *testing.T) {
	texts := []string{""}
	for k := 0; len(texts[k]) < 6; k++ {
		texts = append(texts, texts[k]+"a", texts[k]+"b")
	}
	for _, old := range texts {
		for _, next := range texts {
			checkMake(t, old, next)
		}
	}
}

// Pieces of each size about that from which on a Copy is worth it, with some new bytes between them or none: neither copies nor adds may be so many that the patch is too long.
func TestP10ManyPieces(t *testing.T) {
	old := random(4, api.MaxText)
	for size := 1; size < 40; size++ {
		for between := range 4 {
			d := newDrawer(100*size + between)
			next := ""
			for len(next)+size+between <= api.MaxText {
				at := d.IntN(len(old) - size + 1)
				next += old[at:at+size] + random(len(next), between)
			}
			checkMake(t, old, next)
			checkMake(t, old[2000:], next)
			checkMake(t, old[:100], next)
		}
	}
}

// Pieces that change places wait for each other in rings.
func TestP10PiecesThatChangePlaces(t *testing.T) {
	for _, size := range []int{12, 13, 20, 50, 300} {
		old := random(size, api.MaxText/size*size)
		count := len(old) / size
		piece := func(k int) string { return old[k*size : k*size+size] }
		swapped, turned, mixed := "", "", ""
		for k := range count {
			swapped += piece(min(k^1, count-1))
			turned += piece((k + 3) % count)
		}
		for _, k := range newDrawer(size).Perm(count) {
			mixed += piece(k)
		}
		steps, _ := checkMake(t, old, swapped)
		if copies(steps) < count/2 {
			t.Errorf("P10: of %d pieces of %d bytes that are swapped only %d are copied", count, size, copies(steps))
		}
		checkMake(t, old, turned)
		steps, _ = checkMake(t, old, mixed)
		if copies(steps) < count/2 {
			t.Errorf("P10: of %d pieces of %d bytes that are mixed only %d are copied", count, size, copies(steps))
		}
	}
}

func TestP10TheShortestOfARingIsAdded(t *testing.T) {
	text := random(5, 600)
	a, b, c := text[:100], text[100:300], text[300:]
	for next, want := range map[string]int{b + a + c: 100, b + c + a: 100, c + a + b: 300, c + b + a: 300} {
		steps, patch := checkMake(t, text, next)
		if added := len(next) - sizeOfCopies(steps); added > want+1 || len(patch) > want+50 {
			t.Errorf("P10: %d bytes are added, in %d of the patch, want up to the %d of the shortest piece and the first byte that differs", added, len(patch), want)
		}
	}
}

func TestP10BytesThatMayStayDo(t *testing.T) {
	twice, between, more := random(7, 40), random(8, 40), random(9, 40)
	old := twice + between + twice
	// From its first place it would be in a ring with the piece that goes there.
	steps, _ := checkMake(t, old, old[60:100]+more+twice)
	if size := sizeOfCopies(steps); size != 79 {
		t.Errorf("P10: %d bytes are copied by %v, want 80 but for the first that differs", size, steps)
	}
}

func sizeOfCopies(steps []api.Step) int {
	n := 0
	for _, s := range steps {
		if s.Kind == api.Copy {
			n += s.Size
		}
	}
	return n
}

func TestP10ChangedTexts(t *testing.T) {
	for seed := range 600 {
		d := newDrawer(9000 + seed)
		old := d.text(d.IntN([]int{60, 600, 3000}[d.IntN(3)]))
		next := d.edited(old, 1+d.IntN(12), api.MaxText)
		checkMake(t, old, next)
		checkMake(t, next, old)
	}
}

func TestP10PatchesOfTextsThatAreAlikeAreShort(t *testing.T) {
	text := random(6, 3000)
	for name, c := range map[string]struct {
		old, next string
		most      int
	}{
		"a piece gone":                {text, text[:300] + text[500:], 35},
		"the front gone":              {text, text[1000:], 27},
		"a byte changed":              {text, text[:400] + "!" + text[401:], 38},
		"a byte ahead":                {text, "!" + text, 30},
		"a piece new":                 {text, text[:200] + "something new" + text[200:], 50},
		"twice":                       {text[:1500], text[:1500] + text[:1500], 32},
		"the same again and again":    {strings.Repeat("0123456789abcdef", 200), strings.Repeat("0123456789abcdef", 190), 26},
		"the same, but some between":  {strings.Repeat("0123456789abcdef", 200), strings.Repeat("0123456789abcdef", 100) + "!" + strings.Repeat("0123456789abcdef", 99), 38},
		"the same, but some is other": {strings.Repeat("0123456789abcdef", 200), strings.Repeat("0123456789abcdef", 100) + "!" + strings.Repeat("0123456789abcdef", 100)[1:], 38},
	} {
		if _, patch := checkMake(t, c.old, c.next); len(patch) > c.most {
			t.Errorf("P10: %s: the patch has %d bytes, which is not short", name, len(patch))
		}
	}
}
