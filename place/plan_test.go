package place_test

import (
	"math"
	"slices"
	"strings"
	"testing"

	"tailor/api"
	"tailor/code"
	"tailor/place"
)

func samePlan(a, b api.Plan) bool {
	return a.OldLen == b.OldLen && a.NewLen == b.NewLen && a.OldSum == b.OldSum && a.NewSum == b.NewSum && slices.Equal(a.Steps, b.Steps)
}

func checkRead(t *testing.T, name, patch string, want api.Plan, e api.Errno) {
	t.Helper()
	if p, f := place.Read(patch); !samePlan(p, want) || f != e {
		t.Errorf("P9: %s: Read(%.80q) = %.200v, %d, want %.200v, %d", name, patch, p, f, want, e)
	}
}

func checkWrite(t *testing.T, name string, p api.Plan, want string, e api.Errno) {
	t.Helper()
	before := slices.Clone(p.Steps)
	if patch, f := place.Write(p); patch != want || f != e {
		t.Errorf("P9: %s: Write(%.200v) = %.80q, %d, want %.80q, %d", name, p, patch, f, want, e)
	}
	if !slices.Equal(p.Steps, before) {
		t.Errorf("P2: %s: Write wrote into its steps", name)
	}
}

// checkPlan: it may be.
func checkPlan(t *testing.T, name string, p api.Plan) {
	t.Helper()
	checkWrite(t, name, p, patchOf(p), api.OK)
	checkRead(t, name, patchOf(p), p, api.OK)
}

// checkNoPlan: it may not be, and is no patch either.
func checkNoPlan(t *testing.T, name string, p api.Plan) {
	t.Helper()
	checkWrite(t, name, p, "", api.ErrArg)
	checkRead(t, name, patchOf(p), api.Plan{}, api.ErrForm)
}

func checkNoOrder(t *testing.T, name string, p api.Plan) {
	t.Helper()
	checkWrite(t, name, p, "", api.ErrOrder)
	checkRead(t, name, patchOf(p), api.Plan{}, api.ErrOrder)
}

// singles are so many steps of one byte each.
func singles(n int) []api.Step {
	var list []api.Step
	for i := range n {
		list = append(list, add(i, "x"))
	}
	return list
}

func TestP9TheExample(t *testing.T) {
	checkNoOrder(t, "copies", planOf("abcd", "cdab", copyOf(0, 2, 2), copyOf(2, 2, 0)))
	checkNoOrder(t, "copies, the other order", planOf("abcd", "cdab", copyOf(2, 2, 0), copyOf(0, 2, 2)))
	p := planOf("abcd", "cdab", copyOf(0, 2, 2), add(2, "ab"))
	checkPlan(t, "a copy and an add", p)
	text := "TLRI\x04" + code.Sum("abcd") + "\x04" + code.Sum("cdab") + "\x02" + "\x03\x00\x02\x02" + "\x01\x02\x02ab"
	checkRead(t, "by its bytes", text, p, api.OK)
	checkWrite(t, "by its bytes", p, text, api.OK)
}

func TestP9PlansThatMayBe(t *testing.T) {
	for name, p := range map[string]api.Plan{
		"nothing":                             planOf("", ""),
		"nothing of something":                planOf("old", ""),
		"something of nothing":                planOf("", "new", add(0, "new")),
		"all stays":                           planOf("abcd", "abcd", copyOf(0, 4, 0)),
		"the front stays":                     planOf("abcd", "a", copyOf(0, 1, 0)),
		"the end of the old text":             planOf("abcd", "d", copyOf(0, 1, 3)),
		"a copy into itself, up":              planOf("abcd", "aabc", copyOf(1, 3, 0), add(0, "a")),
		"a copy into itself, down":            planOf("abcd", "bcdx", copyOf(0, 3, 1), add(3, "x")),
		"side by side":                        planOf("abcd", "cdcd", copyOf(0, 2, 2), copyOf(2, 2, 2)),
		"from where a step ahead just ends":   planOf("abcd", "xbcd", add(0, "x"), copyOf(1, 3, 1)),
		"from where a step ahead just begins": planOf("abcd", "aaax", add(3, "x"), copyOf(0, 3, 0)),
		"beyond the old text":                 planOf("abcd", "abcdabcd", copyOf(4, 4, 0), copyOf(0, 4, 0)),
		"one place comes twice":               planOf("abcd", "aa", copyOf(1, 1, 0), copyOf(0, 1, 0)),
		"steps from the end on":               planOf("", "abc", add(2, "c"), add(1, "b"), add(0, "a")),
		"any sums":                            {OldLen: 1, OldSum: "\x00\x00\x00\x00", NewLen: 1, NewSum: "\xff\xff\xff\xff", Steps: []api.Step{copyOf(0, 1, 0)}},
	} {
		checkPlan(t, name, p)
	}
}

func TestP9TheLimitsThemselves(t *testing.T) {
	checkPlan(t, "the greatest texts", api.Plan{OldLen: 4000, OldSum: "old.", NewLen: 4000, NewSum: "new.", Steps: []api.Step{copyOf(0, 4000, 0)}})
	checkPlan(t, "all steps", planOf("", strings.Repeat("x", 2000), singles(2000)...))
	checkPlan(t, "all steps, and a great one", planOf("", strings.Repeat("x", 4000), append(singles(1999), add(1999, strings.Repeat("x", 2001)))...))
	checkPlan(t, "the last place", planOf("", strings.Repeat("x", 4000), add(0, strings.Repeat("x", 3999)), add(3999, "x")))
	checkNoPlan(t, "a step too much", planOf("", strings.Repeat("x", 2001), singles(2001)...))
	checkNoPlan(t, "an old text too long", api.Plan{OldLen: 4001, OldSum: "old.", NewSum: "new."})
	checkNoPlan(t, "an old text far too long", api.Plan{OldLen: math.MaxInt32, OldSum: "old.", NewSum: "new."})
	checkNoPlan(t, "an old text too long that is copied", api.Plan{OldLen: 4001, OldSum: "old.", NewLen: 1, NewSum: "new.", Steps: []api.Step{copyOf(0, 1, 4000)}})
	checkNoPlan(t, "a new text too long", planOf("", strings.Repeat("x", 4001), add(0, strings.Repeat("x", 4001))))
	checkNoPlan(t, "a new text far too long", api.Plan{NewLen: math.MaxInt32, OldSum: "old.", NewSum: "new.", Steps: []api.Step{add(0, "x")}})
}

func TestP9PlansThatMayNotBe(t *testing.T) {
	for name, p := range map[string]api.Plan{
		"no steps":                        planOf("abcd", "cdab"),
		"a place too few at the end":      planOf("abcd", "cdab", copyOf(0, 2, 2), add(2, "a")),
		"a place too few at the front":    planOf("abcd", "cdab", copyOf(1, 3, 0)),
		"a place too few between":         planOf("abcd", "cdab", copyOf(0, 2, 2), add(3, "b")),
		"a place too much":                planOf("abcd", "cdab", copyOf(0, 2, 2), add(2, "abc")),
		"a place twice":                   planOf("abcd", "cdab", copyOf(0, 2, 2), add(1, "dab")),
		"a place twice, one not at all":   planOf("abcd", "cdab", copyOf(0, 2, 2), add(1, "da")),
		"all places twice":                planOf("", "ab", add(0, "ab"), add(0, "ab")),
		"far beyond the new text":         planOf("abcd", "cdab", copyOf(0, 2, 2), add(2, "ab"), add(math.MaxInt32, "x")),
		"of a new text of nothing":        planOf("abcd", "", add(0, "x")),
		"an add of nothing":               planOf("abcd", "cdab", copyOf(0, 2, 2), add(2, "ab"), add(4, "")),
		"an add of nothing within":        planOf("abcd", "cdab", copyOf(0, 2, 2), add(2, ""), add(2, "ab")),
		"a copy of nothing":               planOf("abcd", "cdab", copyOf(0, 2, 2), add(2, "ab"), copyOf(0, 0, 0)),
		"a copy beyond the old text":      planOf("abcd", "cdab", copyOf(0, 2, 3), add(2, "ab")),
		"a copy from the end":             planOf("abcd", "cdab", copyOf(0, 2, 4), add(2, "ab")),
		"a copy from behind the end":      planOf("abcd", "cdab", copyOf(0, 2, 5), add(2, "ab")),
		"a copy from far behind":          planOf("abcd", "cdab", copyOf(0, 2, math.MaxInt32), add(2, "ab")),
		"a copy of what is new":           planOf("ab", "abab", copyOf(0, 2, 0), copyOf(2, 2, 2)),
		"a copy of nothing that there is": planOf("", "a", copyOf(0, 1, 0)),
		"a copy longer than the old text": planOf("abcd", "abcdx", copyOf(0, 5, 0)),
		"a kind that is none":             planOf("", "zz", api.Step{Kind: api.None, To: 0, Size: 2, Data: "zz"}),
		"a run":                           planOf("", "zz", api.Step{Kind: api.Run, To: 0, Size: 2, Data: "zz"}),
		"a kind beyond":                   planOf("", "zz", api.Step{Kind: 4, To: 0, Size: 2, Data: "zz"}),
		"a far kind":                      planOf("", "zz", api.Step{Kind: 255, To: 0, Size: 2, Data: "zz"}),
	} {
		checkNoPlan(t, name, p)
	}
}

// Plans that no patch could say.
func TestP9PlansThatCannotBeWritten(t *testing.T) {
	far := []int{math.MinInt, math.MinInt32, -1, 1 << 31, 1 << 32, 1 << 62, math.MaxInt - 1, math.MaxInt}
	good := planOf("abcd", "cdab", copyOf(0, 2, 2), add(2, "ab"))
	with := func(k int, change func(s *api.Step)) api.Plan {
		p := good
		p.Steps = slices.Clone(p.Steps)
		change(&p.Steps[k])
		return p
	}
	for _, n := range far {
		for name, p := range map[string]api.Plan{
			"the old length": {OldLen: n, OldSum: "old.", NewSum: "new."},
			"the new length": {NewLen: n, OldSum: "old.", NewSum: "new."},
			"a kind":         with(0, func(s *api.Step) { s.Kind = n }),
			"a kind's byte":  with(0, func(s *api.Step) { s.Kind = n&^255 | api.Copy }),
			"to":             with(0, func(s *api.Step) { s.To = n }),
			"to of an add":   with(1, func(s *api.Step) { s.To = n }),
			"size":           with(0, func(s *api.Step) { s.Size = n }),
			"size of an add": with(1, func(s *api.Step) { s.Size = n }),
			"from":           with(0, func(s *api.Step) { s.From = n }),
			"from of an add": with(1, func(s *api.Step) { s.From = n }),
			"size and from":  with(0, func(s *api.Step) { s.Size, s.From = n, n }),
			"to and size":    with(0, func(s *api.Step) { s.To, s.Size = n, n }),
			"more than all":  with(0, func(s *api.Step) { s.To, s.Size = 1-n, n }),
		} {
			if name == "a kind's byte" && n == -1 {
				continue // it is the kind itself
			}
			checkWrite(t, name, p, "", api.ErrArg)
		}
	}
	for name, p := range map[string]api.Plan{
		"zeros":              {},
		"no old sum":         {NewSum: "new."},
		"no new sum":         {OldSum: "old."},
		"a short old sum":    {OldSum: "old", NewSum: "new."},
		"a long old sum":     {OldSum: "old..", NewSum: "new."},
		"a short new sum":    {OldSum: "old.", NewSum: "new"},
		"a long new sum":     {OldSum: "old.", NewSum: "new.."},
		"a copy with data":   with(0, func(s *api.Step) { s.Data = "cd" }),
		"a copy with a byte": with(0, func(s *api.Step) { s.Data = "c" }),
		"an add with a from": with(1, func(s *api.Step) { s.From = 1 }),
		"an add without":     with(1, func(s *api.Step) { s.Data = "" }),
		"an add of less":     with(1, func(s *api.Step) { s.Data = "a" }),
		"an add of more":     with(1, func(s *api.Step) { s.Data = "abc" }),
	} {
		checkWrite(t, name, p, "", api.ErrArg)
	}
	checkWrite(t, "very many steps", api.Plan{OldSum: "old.", NewSum: "new.", Steps: make([]api.Step, 1_000_000)}, "", api.ErrArg)
}

func TestP9OrderOfSteps(t *testing.T) {
	for name, p := range map[string]api.Plan{
		"an add ahead":            planOf("abcd", "aabc", add(0, "a"), copyOf(1, 3, 0)),
		"a copy ahead":            planOf("abcd", "bab", copyOf(0, 1, 1), copyOf(1, 2, 0)),
		"only the first byte":     planOf("abcd", "xabcd", add(0, "x"), copyOf(1, 4, 0)),
		"only the last byte":      planOf("abcd", "abcx", add(3, "x"), copyOf(0, 3, 1)),
		"within":                  planOf("abcdefgh", "......x..abcdefgh", add(6, "x"), add(0, "......"), add(7, ".."), copyOf(9, 8, 0)),
		"far ahead":               planOf("abcd", "xyza", add(0, "x"), add(1, "y"), add(2, "z"), copyOf(3, 1, 0)),
		"just where it goes back": planOf("abcd", "bb", copyOf(0, 1, 1), copyOf(1, 1, 0)),
	} {
		checkNoOrder(t, name, p)
	}
}

func TestP9FormIsNamedAheadOfOrder(t *testing.T) {
	for name, p := range map[string]api.Plan{
		"a place too few":     planOf("abcd", "cdabx", copyOf(0, 2, 2), copyOf(2, 2, 0)),
		"a copy from behind":  planOf("abcd", "cdabx", copyOf(0, 2, 2), copyOf(2, 2, 0), copyOf(4, 1, 4)),
		"a kind that is none": planOf("abcd", "cdabx", copyOf(0, 2, 2), copyOf(2, 2, 0), api.Step{Kind: 2, To: 4, Size: 1, Data: "x"}),
		"a place twice":       planOf("abcd", "cdab", copyOf(0, 2, 2), copyOf(2, 2, 0), add(3, "b")),
	} {
		checkNoPlan(t, name, p)
	}
	text := patchOf(planOf("abcd", "cdab", copyOf(0, 2, 2), copyOf(2, 2, 0)))
	checkRead(t, "with something behind", text+"\x00", api.Plan{}, api.ErrForm)
	checkRead(t, "cut off", text[:len(text)-1], api.Plan{}, api.ErrForm)
	p := planOf("abcd", "cdab", copyOf(0, 2, 2), copyOf(2, 2, 0))
	p.NewSum = "new"
	checkWrite(t, "a short sum", p, "", api.ErrArg)
}

func TestP9TextsThatAreNoPatch(t *testing.T) {
	good := patchOf(planOf("abcd", "cdab", copyOf(0, 2, 2), add(2, "ab")))
	for at := range good {
		checkRead(t, "cut off", good[:at], api.Plan{}, api.ErrForm)
	}
	head := "TLRI\x04" + code.Sum("abcd") + "\x04" + code.Sum("cdab")
	for name, patch := range map[string]string{
		"something behind":      good + "\x00",
		"twice":                 good + good,
		"a step behind":         good + "\x01\x04\x01x",
		"a patch of delta":      "TLR1" + good[4:],
		"another mark":          "tlri" + good[4:],
		"something ahead":       "\x00" + good,
		"more steps told":       strings.Replace(good, "\x02\x03\x00", "\x03\x03\x00", 1),
		"fewer steps told":      strings.Replace(good, "\x02\x03\x00", "\x01\x03\x00", 1),
		"no number of steps":    head,
		"a number of no steps":  head + "\x00",
		"steps without end":     head + number(math.MaxInt32),
		"steps beyond":          head + number(2001) + strings.Repeat("\x01\x00\x01x", 2001),
		"a group too much":      strings.Replace(good, "\x03\x00\x02\x02", "\x03\x80\x00\x02\x02", 1),
		"a group too much, add": strings.Replace(good, "\x01\x02\x02ab", "\x01\x02\x80\x02ab", 1),
		"a size without bytes":  strings.Replace(good, "\x01\x02\x02ab", "\x01\x02"+number(math.MaxInt32), 1),
		"a number beyond":       strings.Replace(good, "\x03\x00\x02\x02", "\x03\x00\x02\x88\x80\x80\x80\x02", 1),
	} {
		if patch == good {
			t.Fatalf("%s: nothing is changed", name)
		}
		checkRead(t, name, patch, api.Plan{}, api.ErrForm)
	}
}

func TestP9EachByteChanged(t *testing.T) {
	for _, p := range []api.Plan{
		planOf("abcd", "cdab", copyOf(0, 2, 2), add(2, "ab")),
		planOf("abcdefgh", "abcabcdefghx", copyOf(3, 8, 0), copyOf(0, 3, 0), add(11, "x")),
	} {
		patch := patchOf(p)
		for at := range patch {
			for b := range 256 {
				text := patch[:at] + byteOf(b) + patch[at+1:]
				want, e := slowRead(text)
				checkRead(t, "a byte changed", text, want, e)
			}
			checkRead(t, "a byte gone", patch[:at]+patch[at+1:], api.Plan{}, api.ErrForm)
		}
	}
}

func TestP9PlansByChance(t *testing.T) {
	seen := map[api.Errno]int{}
	for seed := range 4000 {
		d := newDrawer(seed)
		p := d.plan()
		patch := patchOf(p)
		want, e := slowRead(patch)
		seen[e]++
		checkRead(t, "by chance", patch, want, e)
		if e == api.OK {
			checkWrite(t, "by chance", p, patch, api.OK)
		} else {
			checkWrite(t, "by chance", p, "", e)
		}
		spoiled := []byte(patch)
		for range 1 + d.IntN(2) {
			spoiled[d.IntN(len(spoiled))] = byte(d.IntN(20))
		}
		want, e = slowRead(string(spoiled))
		seen[e]++
		checkRead(t, "spoiled", string(spoiled), want, e)
	}
	for _, e := range []api.Errno{api.OK, api.ErrForm, api.ErrOrder} {
		if seen[e] < 300 {
			t.Errorf("only %d of these answer %d", seen[e], e)
		}
	}
}
