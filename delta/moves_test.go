package delta_test

import (
	"slices"
	"strings"
	"testing"

	"tailor/api"
	"tailor/code"
	"tailor/delta"
)

func checkMoves(t *testing.T, patch string, want ...api.Move) {
	t.Helper()
	if list, e := delta.Moves(patch); !slices.Equal(list, want) || e != api.OK {
		t.Errorf("P6: Moves(%.60q) = %v, %d, want %v, OK", patch, list, e, want)
	}
}

func checkNoPatch(t *testing.T, name string, patch string) {
	t.Helper()
	if list, e := delta.Moves(patch); len(list) != 0 || e != api.ErrForm {
		t.Errorf("P6: %s: Moves(%.60q) = %v, %d, want nothing, ErrForm", name, patch, list, e)
	}
}

func add(data string) api.Move { return api.Move{Kind: api.Add, Size: len(data), Data: data} }

func runOf(size int, data string) api.Move { return api.Move{Kind: api.Run, Size: size, Data: data} }

func copyOf(size, from int) api.Move { return api.Move{Kind: api.Copy, Size: size, From: from} }

const (
	copy4 = 20 // the code of Copy 4 of mode 0; of each next mode it is 16 more
	copyN = 19 // that of Copy 0
	addN  = 1
	runN  = 0
)

func examplePatch() string {
	return patchOf("abcd", "abcdxabcd", windowOf("abcdxabcd", "x", "\xf7\x14", "\x00\x04"))
}

func TestP6MovesOfTheExample(t *testing.T) {
	checkMoves(t, examplePatch(), copyOf(4, 0), add("x"), copyOf(4, 4))
}

func TestP6MovesOfNothing(t *testing.T) {
	checkMoves(t, patchOf("", ""))
	checkMoves(t, patchOf("old", ""))
}

func TestP6MovesOfEachKind(t *testing.T) {
	checkMoves(t, patchOf("", "abc", windowOf("abc", "abc", bytesOf(addN, 3), "")), add("abc"))
	checkMoves(t, patchOf("", "abc", windowOf("abc", "abc", bytesOf(4), "")), add("abc"))
	checkMoves(t, patchOf("", "zz", windowOf("zz", "z", bytesOf(runN, 2), "")), runOf(2, "z"))
	checkMoves(t, patchOf("", "z", windowOf("z", "z", bytesOf(runN, 1), "")), runOf(1, "z"))
	checkMoves(t, patchOf("ab", "b", windowOf("b", "", bytesOf(copyN, 1), "\x01")), copyOf(1, 1))
	checkMoves(t, patchOf("", "xxxxx", windowOf("xxxxx", "x", bytesOf(163), "\x00")), add("x"), copyOf(4, 0))
	checkMoves(t, patchOf("q", "qqqqx", windowOf("qqqqx", "x", bytesOf(247), "\x00")), copyOf(4, 0), add("x"))
}

// Sums are of no matter to Moves.
func TestP6MovesLookAtNoSum(t *testing.T) {
	p := examplePatch()
	checkMoves(t, strings.Replace(p, code.Sum("abcd"), "\x00\xff\x00\xff", 1), copyOf(4, 0), add("x"), copyOf(4, 4))
	checkMoves(t, strings.Replace(p, code.Sum("abcdxabcd"), "\x00\xff\x00\xff", 1), copyOf(4, 0), add("x"), copyOf(4, 4))
}

// copies writes a window of copies of 4 bytes, whose bytes are of no matter, behind an old text of so many bytes.
func copies(old int, modes []int, addresses string) string {
	codes := ""
	for _, mode := range modes {
		codes += bytesOf(copy4 + 16*mode)
	}
	makes := strings.Repeat("?", 4*len(modes))
	return "TLR1" + number(old) + "sum!" + number(len(makes)) + windowOf(makes, "", codes, addresses)
}

func TestP6AddressesOfEachMode(t *testing.T) {
	for name, c := range map[string]struct {
		modes     []int
		addresses string
		want      []int
	}{
		"the number of it":               {[]int{0, 0}, number(7) + number(2003), []int{7, 2003}},
		"less than here":                 {[]int{1, 1, 1}, number(2000) + number(1) + number(2008), []int{0, 2003, 0}},
		"near 0 ahead of all":            {[]int{2, 3, 4, 5}, number(9) + number(8) + number(7) + number(6), []int{9, 8, 7, 6}},
		"near ones in turn":              {[]int{0, 0, 0, 0, 2, 3, 4, 5}, number(10) + number(20) + number(30) + number(40) + "\x01\x02\x03\x04", []int{10, 20, 30, 40, 11, 22, 33, 44}},
		"the fifth is near 0 again":      {[]int{0, 0, 0, 0, 0, 3, 2}, number(10) + number(20) + number(30) + number(40) + number(50) + "\x00\x00", []int{10, 20, 30, 40, 50, 20, 50}},
		"near ones of all modes":         {[]int{1, 2, 6, 2}, number(1000) + "\x00" + "\x09" + "\x05", []int{1000, 1000, 0, 1005}},
		"same ahead of all":              {[]int{6, 7, 8}, "\x00\xff\x80", []int{0, 0, 0}},
		"same 0":                         {[]int{0, 0, 6, 6}, number(0) + number(255) + "\xff\x00", []int{0, 255, 255, 0}},
		"same 1":                         {[]int{0, 0, 7, 7}, number(256) + number(511) + "\xff\x00", []int{256, 511, 511, 256}},
		"same 2":                         {[]int{0, 0, 8, 8}, number(512) + number(767) + "\xff\x00", []int{512, 767, 767, 512}},
		"the rest by 768":                {[]int{0, 0, 6, 8}, number(768) + number(1535) + "\x00\xff", []int{768, 1535, 768, 1535}},
		"the later one at a place":       {[]int{0, 0, 6, 0, 6}, number(5) + number(773) + "\x05" + number(5) + "\x05", []int{5, 773, 773, 5, 5}},
		"a same one is kept as near too": {[]int{0, 6, 3}, number(77) + "\x4d" + "\x01", []int{77, 77, 78}},
		"an address by near is kept":     {[]int{0, 2, 6}, number(70) + "\x05" + "\x4b", []int{70, 75, 75}},
		"in the new text":                {[]int{0, 0}, number(0) + number(2003), []int{0, 2003}},
	} {
		var want []api.Move
		for _, from := range c.want {
			want = append(want, copyOf(4, from))
		}
		list, e := delta.Moves(copies(2000, c.modes, c.addresses))
		if !slices.Equal(list, want) || e != api.OK {
			t.Errorf("P6: %s: Moves = %v, %d, want %v, OK", name, list, e, want)
		}
	}
}

func TestP6EachWindowBeginsWithNoAddress(t *testing.T) {
	codes := bytesOf(copy4, copy4+16*2, copy4+16*3, copy4+16*6)
	w := windowOf(strings.Repeat("?", 16), "", codes, number(300)+"\x01\x02\x2c") // 300 is 256 and 44, which is of same table 1
	want := []api.Move{copyOf(4, 300), copyOf(4, 301), copyOf(4, 303), copyOf(4, 0)}
	second := windowOf("????????????", "", bytesOf(copy4+16*2, copy4+16*7, copy4+16*2), "\x07\x2c\x01")
	want = append(want, copyOf(4, 7), copyOf(4, 0), copyOf(4, 8))
	checkMoves(t, "TLR1"+number(1000)+"sum!"+number(28)+w+second, want...)
}

func TestP6ACopyMayRunIntoWhatItMakes(t *testing.T) {
	checkMoves(t, patchOf("ab", "bbbb", windowOf("bbbb", "", bytesOf(copy4), "\x01")), copyOf(4, 1))
}

func TestP6AddressesReachOverAllWindows(t *testing.T) {
	first := windowOf("xyz!", "xyz!", bytesOf(5), "")
	second := windowOf("yz!y", "", bytesOf(copy4), number(3))
	third := windowOf("yyyy", "", bytesOf(copy4+16), number(1))
	checkMoves(t, patchOf("ab", "xyz!yz!yyyyy", first, second, third), add("xyz!"), copyOf(4, 3), copyOf(4, 9))
}

func TestP6TheLimitsThemselves(t *testing.T) {
	big := windowOf(strings.Repeat("r", api.MaxWindow), "r", bytesOf(runN)+number(api.MaxWindow), "")
	r := runOf(api.MaxWindow, "r")
	checkMoves(t, "TLR1"+number(0)+"sum!"+number(api.MaxText)+strings.Repeat(big, 4), r, r, r, r)
	one := windowOf("a", "a", bytesOf(2), "")
	checkMoves(t, "TLR1"+number(0)+"sum!"+number(1)+one, add("a"))
	checkMoves(t, "TLR1"+number(0)+"sum!"+number(api.MaxText)+strings.Repeat(one, api.MaxText), slices.Repeat([]api.Move{add("a")}, api.MaxText)...)
	checkMoves(t, "TLR1"+number(api.MaxNumber)+"sum!"+number(0))
	makes := strings.Repeat("?", 13)
	last := windowOf(makes, "?", bytesOf(2, copy4, copy4+16, copy4+16), number(api.MaxNumber)+number(1)+number(api.MaxNumber))
	checkMoves(t, "TLR1"+number(api.MaxNumber)+"sum!"+number(13)+last, add("?"), copyOf(4, api.MaxNumber), copyOf(4, api.MaxNumber+4), copyOf(4, 9))
	near := windowOf(makes, "?", bytesOf(2, copy4, copy4+32, copy4+64), number(api.MaxNumber)+"\x04"+number(api.MaxNumber))
	checkMoves(t, "TLR1"+number(api.MaxNumber)+"sum!"+number(13)+near, add("?"), copyOf(4, api.MaxNumber), copyOf(4, api.MaxNumber+4), copyOf(4, api.MaxNumber))
}

func TestP6NoPatchAtItsFront(t *testing.T) {
	p := examplePatch()
	for at := range p {
		checkNoPatch(t, "cut off", p[:at])
	}
	for _, more := range []string{"\x00", "\x01", "T", p, windowOf("a", "a", "\x02", "")} {
		checkNoPatch(t, "something behind it", p+more)
		checkNoPatch(t, "something behind nothing", patchOf("old", "")+more)
	}
	for _, mark := range []string{"tlr1", "TLRI", "TLR2", "TLR", "TL1R", " TLR1"} {
		checkNoPatch(t, "another mark", mark+p[4:])
	}
	checkNoPatch(t, "an old length with a group too much", "TLR1\x80\x04"+p[5:])
	checkNoPatch(t, "an old length beyond MaxNumber", "TLR1\x88\x80\x80\x80\x00sum!\x00")
	checkNoPatch(t, "a new length with a group too much", "TLR1\x04sum!\x80\x00")
	big := windowOf(strings.Repeat("r", 1000), "r", bytesOf(runN)+number(1000), "")
	checkNoPatch(t, "a new text of 4001 bytes", "TLR1\x00sum!"+number(4001)+strings.Repeat(big, 4)+windowOf("r", "r", "\x02", ""))
	checkNoPatch(t, "a new text of MaxNumber bytes", "TLR1\x00sum!"+number(api.MaxNumber))
}

func TestP6NoPatchByItsWindows(t *testing.T) {
	one, two := windowOf("a", "a", "\x02", ""), windowOf("ab", "ab", "\x03", "")
	for name, c := range map[string]struct {
		size    int
		windows string
	}{
		"no window of one byte":        {1, ""},
		"a window too few":             {2, one},
		"a window too many":            {1, one + one},
		"a window of nothing":          {0, one},
		"a window that leads beyond":   {3, two + two},
		"a first window beyond":        {1, two},
		"an empty window":              {1, windowOf("", "", "", "") + one},
		"an empty window at the end":   {1, one + windowOf("", "", "", "")},
		"an empty window of no text":   {0, windowOf("", "", "", "")},
		"a window of 1001 bytes":       {1001, windowOf(strings.Repeat("r", 1001), "r", bytesOf(runN)+number(1001), "")},
		"a window of MaxNumber bytes":  {4000, number(api.MaxNumber) + "sum!\x00\x00\x00"},
		"data beyond the end":          {1, "\x01sum!" + "\x02\x01\x00" + "a\x02"},
		"data of MaxNumber bytes":      {1, "\x01sum!" + number(api.MaxNumber) + "\x01\x00" + "a\x02"},
		"codes of MaxNumber bytes":     {1, "\x01sum!" + "\x01" + number(api.MaxNumber) + "\x00" + "a\x02"},
		"addresses of MaxNumber bytes": {1, "\x01sum!" + "\x01\x01" + number(api.MaxNumber) + "a\x02"},
		"a size with a group too much": {1, "\x80" + one},
		"data's length with one":       {1, "\x01sum!" + "\x80\x01\x01\x00" + "a\x02"},
		"codes' length with one":       {1, "\x01sum!" + "\x01\x80\x01\x00" + "a\x02"},
		"addresses' length with one":   {1, "\x01sum!" + "\x01\x01\x80\x00" + "a\x02"},
	} {
		checkNoPatch(t, name, "TLR1\x04sum!"+number(c.size)+c.windows)
	}
}

// noWindow is what may not be a window behind an old text of 4 bytes.
type noWindow struct {
	size                   int
	data, codes, addresses string
}

func noWindows() map[string]noWindow {
	return map[string]noWindow{
		"no code":                           {1, "", "", ""},
		"no code for the data":              {1, "x", "", ""},
		"bytes too few":                     {2, "x", "\x02", ""},
		"bytes too many":                    {1, "xx", "\x03", ""},
		"bytes too many by one code":        {1, "xx", "\x02\x02", ""},
		"bytes too many by a second one":    {4, "x", "\xf7", "\x00"},
		"an Add without data":               {1, "", "\x02", ""},
		"an Add with too little data":       {2, "x", "\x03", ""},
		"a Run without data":                {1, "", "\x00\x01", ""},
		"a Run with data for each byte":     {2, "xx", "\x00\x02", ""},
		"data left":                         {1, "xx", "\x02", ""},
		"data of a Copy":                    {4, "x", "\x14", "\x00"},
		"addresses left":                    {1, "x", "\x02", "\x00"},
		"addresses left of a Copy":          {4, "", "\x14", "\x03\x03"},
		"an Add of 0":                       {1, "x", "\x02\x01\x00", ""},
		"an Add of 0 alone":                 {1, "x", "\x01\x00", ""},
		"a Run of 0":                        {1, "xx", "\x02\x00\x00", ""},
		"a Run of 0 first":                  {1, "x", "\x00\x00\x02", ""},
		"a Copy of 0":                       {1, "x", "\x02\x13\x00", "\x00"},
		"no number behind an Add":           {1, "x", "\x01", ""},
		"no number behind a Run":            {1, "x", "\x00", ""},
		"no number behind a Copy":           {1, "", "\x13", "\x00"},
		"half a number":                     {1, "x", "\x01\x81", ""},
		"a number with a group too much":    {1, "x", "\x01\x80\x01", ""},
		"a number beyond MaxNumber":         {1, "x", "\x01\x88\x80\x80\x80\x00", ""},
		"an Add of MaxNumber":               {1, "x", "\x01" + number(api.MaxNumber), ""},
		"a Run of MaxNumber":                {1, "x", "\x00" + number(api.MaxNumber), ""},
		"a Copy of MaxNumber":               {1, "", "\x13" + number(api.MaxNumber), "\x00"},
		"a Copy without an address":         {4, "", "\x14", ""},
		"half an address":                   {4, "", "\x14", "\x81"},
		"an address with a group too much":  {4, "", "\x14", "\x80\x01"},
		"an address that is here":           {4, "", "\x14", "\x04"},
		"an address behind here":            {4, "", "\x14", "\x05"},
		"an address of MaxNumber":           {4, "", "\x14", number(api.MaxNumber)},
		"an address 0 less than here":       {4, "", "\x24", "\x00"},
		"an address below 0":                {4, "", "\x24", "\x05"},
		"an address far below 0":            {4, "", "\x24", number(api.MaxNumber)},
		"no number less than here":          {4, "", "\x24", ""},
		"a near one that is here":           {4, "", "\x34", "\x04"},
		"a near one behind here":            {8, "", "\x14\x34", "\x03\x05"},
		"a near one of MaxNumber":           {8, "", "\x14\x34", "\x03" + number(api.MaxNumber)},
		"no number behind near":             {4, "", "\x34", ""},
		"the last near one without one":     {4, "", "\x64", ""},
		"no byte of the same ones":          {4, "", "\x74", ""},
		"no byte of the last same ones":     {4, "", "\x94", ""},
		"two bytes of the same ones":        {4, "", "\x74", "\x00\x00"},
		"a pair whose Copy has no address":  {5, "x", "\xa3", ""},
		"a pair whose Copy is not there":    {5, "", "\xf7", "\x00"},
		"a Copy with no address ahead of x": {5, "x", "\xf7", ""},
	}
}

func TestP6NoPatchByItsCodes(t *testing.T) {
	for name, w := range noWindows() {
		head := "TLR1\x04sum!" + number(w.size)
		text := number(w.size) + "sum!" + number(len(w.data)) + number(len(w.codes)) + number(len(w.addresses)) + w.data + w.codes + w.addresses
		checkNoPatch(t, name, head+text)
		right := windowOf("abc", "abc", "\x04", "")
		checkNoPatch(t, name+" behind a right one", "TLR1\x01sum!"+number(w.size+3)+right+text)
	}
}

// Where there is neither an old text nor a byte of the new one, each address is of here.
func TestP6NoCopyOfNothing(t *testing.T) {
	for mode := range 9 {
		checkNoPatch(t, "a copy of nothing", copies(0, []int{mode}, "\x00"))
		checkMoves(t, copies(1, []int{mode}, bytesOf([]int{0, 1, 0, 0, 0, 0, 0, 0, 0}[mode])), copyOf(4, 0))
	}
}

// instruction says what half of a code does, here, if it is a Copy from 0 and, if its size is not told, of 5 bytes.
func instruction(h api.Half, here int) (m api.Move, behind, address string) {
	m = api.Move{Kind: h.Kind, Size: h.Size}
	if h.Size == 0 {
		m.Size, behind = 5, "\x05"
	}
	switch {
	case h.Kind == api.Run:
		m.Data = "r"
	case h.Kind == api.Add:
		m.Data = "added so many bytes"[:m.Size]
	case h.Mode == 1:
		address = number(here)
	default:
		address = "\x00"
	}
	return m, behind, address
}

func TestP6EachCode(t *testing.T) {
	for n := range 256 {
		first, second, _ := code.Code(n)
		m, behind, address := instruction(first, 4)
		want, all := []api.Move{m}, run("abcd", m)
		if second.Kind != api.None {
			m2, behind2, address2 := instruction(second, len(all))
			want, all, behind, address = append(want, m2), run(all, m2), behind+behind2, address+address2
		}
		data := ""
		for _, m := range want {
			data += m.Data
		}
		next := all[4:]
		patch := patchOf("abcd", next, windowOf(next, data, bytesOf(n)+behind, address))
		checkMoves(t, patch, want...)
		checkApply(t, "abcd", patch, next, api.OK)
	}
}

func TestP6MovesOfAllThatCanBeWritten(t *testing.T) {
	for seed := range 400 {
		p := newWriter(seed).patch()
		if list, e := delta.Moves(p.patch); !slices.Equal(list, p.moves) || e != api.OK {
			t.Errorf("P6: seed %d: Moves = %v, %d, want %v, OK", seed, list, e, p.moves)
		}
	}
}

// spoil changes a text a little, at a place of chance.
func spoil(w *writer, text string) string {
	at := w.chance.IntN(len(text))
	some := bytesOf([]int{w.chance.IntN(256), 0, 1, int(text[at]) + 1, int(text[at]) - 1, 128, 19, 20}[w.chance.IntN(8)])
	switch w.chance.IntN(4) {
	case 0:
		return text[:at] + text[at+1:]
	case 1:
		return text[:at] + some + text[at:]
	}
	return text[:at] + some + text[at+1:]
}

func TestP6AndP7OfSpoiledPatches(t *testing.T) {
	asked := map[api.Errno]int{}
	for seed := range 300 {
		w := newWriter(1000 + seed)
		p := w.patch()
		for range 60 {
			text := spoil(w, p.patch)
			if w.chance.IntN(4) == 0 {
				text = spoil(w, text)
			}
			want := slow(text)
			list, e := delta.Moves(text)
			if want.form != (e == api.OK) || !want.form && e != api.ErrForm || !slices.Equal(list, want.moves) {
				t.Fatalf("P6: Moves(%q) = %v, %d, want %v, a patch: %v", text, list, e, want.moves, want.form)
			}
			next, f := slowApply(p.old, text)
			checkApply(t, p.old, text, next, f)
			asked[f]++
		}
	}
	for _, e := range []api.Errno{api.OK, api.ErrForm, api.ErrOld, api.ErrSum} {
		if asked[e] < 10 {
			t.Errorf("this test has asked for the error %d only %d times", e, asked[e])
		}
	}
}
