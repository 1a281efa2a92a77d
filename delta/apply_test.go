package delta_test

import (
	"strings"
	"testing"

	"tailor/api"
	"tailor/code"
	"tailor/delta"
)

func checkApply(t *testing.T, old, patch, want string, f api.Errno) {
	t.Helper()
	if next, e := delta.Apply(old, patch); next != want || e != f {
		t.Errorf("P7: Apply(%.20q, %.60q) = %.60q, %d, want %.60q, %d", old, patch, next, e, want, f)
	}
}

func TestP7ApplyOfTheExample(t *testing.T) {
	checkApply(t, "abcd", examplePatch(), "abcdxabcd", api.OK)
}

func TestP7ApplyOfNothing(t *testing.T) {
	checkApply(t, "", patchOf("", ""), "", api.OK)
	checkApply(t, "old", patchOf("old", ""), "", api.OK)
	checkApply(t, "", patchOf("", "new", windowOf("new", "new", "\x04", "")), "new", api.OK)
}

func TestP7ApplyOfEachKind(t *testing.T) {
	checkApply(t, "", patchOf("", "zzz", windowOf("zzz", "z", "\x00\x03", "")), "zzz", api.OK)
	checkApply(t, "", patchOf("", "\x00\xff", windowOf("\x00\xff", "\x00\xff", "\x03", "")), "\x00\xff", api.OK)
	checkApply(t, "é\xff", patchOf("é\xff", "\xff", windowOf("\xff", "", "\x13\x01", "\x02")), "\xff", api.OK)
	checkApply(t, "abcdefgh", patchOf("abcdefgh", "cdef", windowOf("cdef", "", "\x14", "\x02")), "cdef", api.OK)
}

func TestP7ACopyGoesByteByByte(t *testing.T) {
	checkApply(t, "ab", patchOf("ab", "bbbb", windowOf("bbbb", "", "\x14", "\x01")), "bbbb", api.OK) // out of the old text into the new one
	long := strings.Repeat("xyz", 333) + "x"
	checkApply(t, "", patchOf("", long, windowOf(long, "xyz", "\x04\x13"+number(997), "\x00")), long, api.OK)
	// and out of the end of one window
	checkApply(t, "", patchOf("", "xxxxx", windowOf("x", "x", "\x02", ""), windowOf("xxxx", "", "\x24", "\x01")), "xxxxx", api.OK)
}

func TestP7OldIsTooLong(t *testing.T) {
	most := strings.Repeat("o", api.MaxText)
	checkApply(t, most, patchOf(most, "oooo", windowOf("oooo", "", "\x14", number(3999))), "oooo", api.OK)
	long := most + "o"
	for _, patch := range []string{"", "TLR1", examplePatch(), patchOf(long, ""), patchOf(long, "oooo", windowOf("oooo", "", "\x14", "\x00"))} {
		checkApply(t, long, patch, "", api.ErrLong)
	}
}

func TestP7NewTextOfTheGreatestLength(t *testing.T) {
	old := strings.Repeat("0123456789", 400)
	windows := ""
	for i := range 4 {
		windows += windowOf(old[:1000], "", "\x13"+number(1000), number(i*1000))
	}
	checkApply(t, old, patchOf(old, old, windows), old, api.OK)
}

func TestP7NoPatch(t *testing.T) {
	for at := range examplePatch() {
		checkApply(t, "abcd", examplePatch()[:at], "", api.ErrForm)
		checkApply(t, "another", examplePatch()[:at], "", api.ErrForm) // which is named ahead of ErrOld
	}
	checkApply(t, "abcd", examplePatch()+"\x00", "", api.ErrForm)
	checkApply(t, "abcd", patchOf("abcd", "ab", windowOf("?", "a", "\x02", "")), "", api.ErrForm) // and of ErrSum
}

func TestP7AnotherOldText(t *testing.T) {
	for _, old := range []string{"", "a", "abc", "abce", "Abcd", "abcde", "dcba", "abcd\x00", strings.Repeat("x", 4000)} {
		checkApply(t, old, examplePatch(), "", api.ErrOld)
	}
	wrong := windowOf("?bcd", "", "\x14", "\x00")
	checkApply(t, "abce", patchOf("abcd", "abcd", wrong), "", api.ErrOld) // which is named ahead of ErrSum
	checkApply(t, "abcd", "TLR1"+number(5)+code.Sum("abcd")+number(0), "", api.ErrOld)
	checkApply(t, "abcd", "TLR1"+number(4)+code.Sum("abce")+number(0), "", api.ErrOld)
	checkApply(t, "abcd", "TLR1"+number(api.MaxNumber)+code.Sum("abcd")+number(0), "", api.ErrOld)
	checkApply(t, "", "TLR1"+number(0)+"\x00\x00\x00\x00"+number(0), "", api.ErrOld)
}

func TestP7AnotherSum(t *testing.T) {
	good := windowOf("abcd", "", "\x14", "\x00")
	wrong := windowOf("abce", "", "\x14", "\x00")
	checkApply(t, "abcd", patchOf("abcd", "abcdabcd", good, good), "abcdabcd", api.OK)
	checkApply(t, "abcd", patchOf("abcd", "abcd", wrong), "", api.ErrSum)
	checkApply(t, "abcd", patchOf("abcd", "abcdabcd", wrong, good), "", api.ErrSum)
	checkApply(t, "abcd", patchOf("abcd", "abcdabcd", good, wrong), "", api.ErrSum)
	// The sum is that of the window's bytes alone.
	all := number(4) + code.Sum("abcdabcd") + "\x00\x01\x01\x14\x00"
	checkApply(t, "abcd", patchOf("abcd", "abcdabcd", good, all), "", api.ErrSum)
	for at := range 4 {
		sum := []byte(code.Sum("abcd"))
		sum[at]++
		checkApply(t, "abcd", patchOf("abcd", "abcd", number(4)+string(sum)+"\x00\x01\x01\x14\x00"), "", api.ErrSum)
	}
}

func TestP7ApplyOfAllThatCanBeWritten(t *testing.T) {
	for seed := range 400 {
		p := newWriter(seed).patch()
		checkApply(t, p.old, p.patch, p.next, api.OK)
	}
}
