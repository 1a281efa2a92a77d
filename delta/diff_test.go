package delta_test

import (
	"math"
	"slices"
	"strings"
	"testing"

	"tailor/api"
	"tailor/delta"
)

// sizesOf is how many bytes each window has, by the words of P8.
func sizesOf(size, window int) []int {
	var list []int
	for ; size > window; size -= window {
		list = append(list, window)
	}
	if size > 0 {
		list = append(list, size)
	}
	return list
}

// checkDiff holds a patch to all that P8 says of it, and answers it.
func checkDiff(t *testing.T, old, next string, window int) string {
	t.Helper()
	patch, e := delta.Diff(old, next, window)
	if e != api.OK {
		t.Fatalf("P8: Diff(%.40q, %.40q, %d) = %.40q, %d, want OK", old, next, window, patch, e)
	}
	if made, f := slowApply(old, patch); made != next || f != api.OK {
		t.Fatalf("P8: Diff(%q, %q, %d) = %q, which makes %q, %d", old, next, window, patch, made, f)
	}
	checkApply(t, old, patch, next, api.OK)
	sizes := sizesOf(len(next), window)
	if got := slow(patch).sizes; !slices.Equal(got, sizes) {
		t.Fatalf("P8: Diff(%.40q, %.40q, %d) has windows of %v bytes, want %v", old, next, window, got, sizes)
	}
	most := 40 + 30*len(sizes)
	if old != next {
		most += len(next)
	}
	if len(patch) > most {
		t.Fatalf("P8: Diff(%q, %q, %d) has %d bytes, want at most %d", old, next, window, len(patch), most)
	}
	return patch
}

func checkNoDiff(t *testing.T, old, next string, window int, want api.Errno) {
	t.Helper()
	if patch, e := delta.Diff(old, next, window); patch != "" || e != want {
		t.Errorf("P8: Diff of %d and %d bytes by %d = %.40q, %d, want nothing, %d", len(old), len(next), window, patch, e, want)
	}
}

func TestP8DiffOfTheExample(t *testing.T) {
	for _, window := range []int{api.MinWindow, 17, 500, api.MaxWindow} {
		if patch := checkDiff(t, "abcd", "abcdxabcd", window); len(patch) > len(examplePatch()) {
			t.Errorf("P8: Diff of the example is %q, which is longer than that", patch)
		}
		checkDiff(t, "abcdxabcd", "abcd", window)
	}
}

func TestP8NoSuchWindow(t *testing.T) {
	long := strings.Repeat("x", api.MaxText+1)
	for _, window := range []int{math.MinInt, -1000, -16, -1, 0, 1, 15, 1001, 4000, 1 << 32, 1<<32 + 16, math.MaxInt} {
		checkNoDiff(t, "", "", window, api.ErrArg)
		checkNoDiff(t, "abcd", "abcde", window, api.ErrArg)
		checkNoDiff(t, long, long, window, api.ErrArg) // which is named ahead of ErrLong
	}
	checkDiff(t, "abcd", "abcde", 16)
	checkDiff(t, "abcd", "abcde", 1000)
}

func TestP8TooLong(t *testing.T) {
	long := strings.Repeat("x", api.MaxText+1)
	for _, window := range []int{api.MinWindow, 100, api.MaxWindow} {
		checkNoDiff(t, long, "", window, api.ErrLong)
		checkNoDiff(t, "", long, window, api.ErrLong)
		checkNoDiff(t, long, "abcd", window, api.ErrLong)
		checkNoDiff(t, "abcd", long, window, api.ErrLong)
		checkNoDiff(t, long, long, window, api.ErrLong)
		checkNoDiff(t, long, long[1:], window, api.ErrLong)
		checkNoDiff(t, long[1:], long, window, api.ErrLong)
		checkNoDiff(t, long+long, long+long, window, api.ErrLong)
	}
}

func TestP8TheGreatestTexts(t *testing.T) {
	w := newWriter(1)
	one, other := w.text(api.MaxText), w.text(api.MaxText)
	for _, window := range []int{api.MinWindow, 999, api.MaxWindow} {
		checkDiff(t, one, other, window)
		checkDiff(t, one, one, window)
		checkDiff(t, one, "", window)
		checkDiff(t, "", one, window)
		checkDiff(t, one, one[1:]+"x", window)
		checkDiff(t, one, strings.Repeat("\x00", api.MaxText), window)
	}
}

func TestP8DiffOfNothing(t *testing.T) {
	for _, old := range []string{"", "o", "\x00", strings.Repeat("old", 1000)} {
		for _, window := range []int{api.MinWindow, api.MaxWindow} {
			if patch := checkDiff(t, old, "", window); patch != patchOf(old, "") {
				t.Errorf("P8: Diff(%.20q, nothing) = %.40q, which has windows", old, patch)
			}
		}
	}
}

func TestP8WindowsOfEachLength(t *testing.T) {
	text := newWriter(2).text(3100)
	for _, window := range []int{16, 17, 31, 127, 128, 129, 999, 1000} {
		for _, size := range []int{1, 2, 3, 4, 5, window - 1, window, window + 1, 2*window - 1, 2 * window, 2*window + 1, 3 * window, 3*window + 3} {
			checkDiff(t, "", text[:size], window)
			checkDiff(t, text, text[:size], window)
			checkDiff(t, text[:size], text[:size], window)
			checkDiff(t, text[:50], text[3100-size:], window)
			checkDiff(t, "", strings.Repeat("r", size), window)
		}
	}
}

func TestP8TheSameText(t *testing.T) {
	for seed := range 150 {
		w := newWriter(3000 + seed)
		text := w.text(w.chance.IntN(api.MaxText + 1))
		checkDiff(t, text, text, api.MinWindow+w.chance.IntN(api.MaxWindow-api.MinWindow+1))
		checkDiff(t, text, text, api.MinWindow+w.chance.IntN(4))
	}
	for size := range 70 {
		checkDiff(t, strings.Repeat("s", size), strings.Repeat("s", size), 16)
		checkDiff(t, strings.Repeat("stu", size), strings.Repeat("stu", size), 16)
	}
}

func TestP8TextsWithNothingAlike(t *testing.T) {
	for seed := range 20 {
		w := newWriter(4000 + seed)
		bytes := make([]byte, api.MaxText)
		for i := range bytes {
			bytes[i] = byte(w.chance.IntN(256))
		}
		for _, window := range []int{api.MinWindow, 300, api.MaxWindow} {
			checkDiff(t, "", string(bytes), window)
			checkDiff(t, string(bytes[:2000]), string(bytes[2000:]), window)
		}
	}
}

// Pieces of 4 bytes that are found, and between them bytes that are not, so many that an Add of them has a number of its own: then what is found is more to tell than its bytes.
func TestP8WhatIsFoundMakesItNoLonger(t *testing.T) {
	w := newWriter(5)
	low := make([]byte, api.MaxText)
	for i := range low {
		low[i] = byte(w.chance.IntN(128))
	}
	old := string(low)
	for _, between := range []int{1, 4, 17, 18, 19, 40} {
		for _, piece := range []func(int) string{
			func(i int) string { at := 3990 - 17*i; return old[at : at+4] },
			func(i int) string { at := 128 + (i*1231)%3800; return old[at : at+4] },
			func(i int) string { return strings.Repeat(bytesOf(128+i%100), 4) },
			func(i int) string { at := 3990 - 17*i; return old[at : at+3] },
			func(i int) string { return strings.Repeat(bytesOf(128+i%100), 3) },
		} {
			next := ""
			for i := 0; i < 230 && len(next) < 3900; i++ {
				next += piece(i)
				for range between {
					next += bytesOf(128 + w.chance.IntN(128))
				}
			}
			checkDiff(t, old, next, api.MaxWindow)
		}
	}
}

// all short texts of some letters.
func shortTexts(letters string, most int) []string {
	list := []string{""}
	for from := 0; from < len(list); from++ {
		if len(list[from]) == most {
			break
		}
		for i := range letters {
			list = append(list, list[from]+letters[i:i+1])
		}
	}
	return list
}

func TestP8AllShortTexts(t *testing.T) {
	for _, old := range shortTexts("ab", 5) {
		for _, next := range shortTexts("ab", 7) {
			checkDiff(t, old, next, api.MinWindow)
		}
	}
	for _, tail := range shortTexts("\x00\xff", 7) {
		checkDiff(t, "\x00\xff\x00\x00\xff", strings.Repeat("\xff\x00", 7)+tail, api.MinWindow)
	}
}

// edit changes a text as texts are changed: pieces go, come again, stand elsewhere, are new.
func edit(w *writer, text string) string {
	if text == "" {
		return w.text(20)
	}
	from := w.chance.IntN(len(text))
	to := from + 1 + w.chance.IntN(len(text)-from)
	at := w.chance.IntN(len(text) + 1)
	switch w.chance.IntN(6) {
	case 0:
		return text[:at] + text[from:to] + text[at:]
	case 1:
		return text[:from] + text[to:]
	case 2:
		return text[:at] + strings.Repeat(w.text(1), w.chance.IntN(60)) + text[at:]
	case 3:
		return text[to:] + text[:to]
	case 4:
		return text[:from] + w.text(1) + text[from+1:]
	}
	return text[:at] + w.text(w.chance.IntN(30)) + text[at:]
}

func TestP8AndP12DiffOfChangedTexts(t *testing.T) {
	for seed := range 400 {
		w := newWriter(6000 + seed)
		old := w.text(w.chance.IntN(1500))
		next := old
		for range 1 + w.chance.IntN(12) {
			next = edit(w, next)
			next = next[:min(len(next), api.MaxText)]
		}
		checkDiff(t, old, next, api.MinWindow+w.chance.IntN([]int{30, 985}[w.chance.IntN(2)]))
		checkDiff(t, next, old, api.MaxWindow)
	}
}

// Pieces of some bytes, again and again, in an order of chance: copies come back to addresses and near them.
func TestP8AndP12DiffOfPiecesThatComeAgain(t *testing.T) {
	for seed := range 200 {
		w := newWriter(7000 + seed)
		old := w.text(500 + w.chance.IntN(3500))
		next := ""
		starts := []int{w.chance.IntN(len(old) - 40), w.chance.IntN(len(old) - 40), w.chance.IntN(len(old) - 40), w.chance.IntN(len(old) - 40), w.chance.IntN(len(old) - 40), w.chance.IntN(len(old) - 40)}
		for len(next) < 1500 {
			at := starts[w.chance.IntN(len(starts))] + w.chance.IntN(2)*w.chance.IntN(20)
			next += old[at:at+4+w.chance.IntN(17)] + w.text(w.chance.IntN(6))
		}
		checkDiff(t, old, next, []int{100, 400, 1000}[w.chance.IntN(3)])
	}
}

func TestP8PatchesOfTextsThatAreAlikeAreShort(t *testing.T) {
	w := newWriter(8)
	bytes := make([]byte, 1000)
	for i := range bytes {
		bytes[i] = byte(w.chance.IntN(256))
	}
	text := string(bytes)
	runs, again := "", ""
	for i := range 100 {
		runs += strings.Repeat(bytesOf(i), 9)
		again += text[128+140*w.chance.IntN(6):][:6] + bytesOf(i)
	}
	for name, c := range map[string]struct {
		old, next string
		most      int
	}{
		"turned about":          {text, text[600:] + text[:600], 40},
		"a piece gone":          {text, text[:300] + text[500:], 40},
		"a byte changed":        {text, text[:400] + "!" + text[401:], 40},
		"a piece new":           {text, text[:200] + "something new" + text[200:900], 60},
		"one byte":              {"", strings.Repeat("r", 1000), 32},
		"a run between":         {text, text[:400] + strings.Repeat("r", 200) + text[400:800], 50},
		"many runs":             {"", runs, 330},
		"pieces again":          {text, again, 400},
		"itself again":          {"", strings.Repeat("0123456789", 100), 50},
		"itself of a window on": {"", text[:100] + text[:100] + text[:100], 200},
	} {
		window := api.MaxWindow
		if name == "itself of a window on" {
			window = 100
		}
		if patch := checkDiff(t, c.old, c.next, window); len(patch) > c.most {
			t.Errorf("P8: %s: the patch has %d bytes, which is not short", name, len(patch))
		}
	}
}
