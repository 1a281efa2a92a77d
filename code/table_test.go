package code_test

import (
	"math"
	"testing"

	"tailor/api"
	"tailor/code"
)

type halves [2]api.Half

func half(kind int, size int, mode int) api.Half {
	return api.Half{Kind: kind, Size: size, Mode: mode}
}

func checkCode(t *testing.T, n int, want halves) {
	t.Helper()
	if first, second, e := code.Code(n); first != want[0] || second != want[1] || e != api.OK {
		t.Errorf("P5: Code(%d) = %v, %v, %d, want %v, OK", n, first, second, e, want)
	}
}

// wantCode works a code out by where it stands: another way than the program's.
func wantCode(n int) halves {
	switch {
	case n < 1:
		return halves{half(api.Run, 0, 0)}
	case n < 19:
		return halves{half(api.Add, n-1, 0)}
	case n < 163:
		mode, size := (n-19)/16, (n-19)%16
		if size > 0 {
			size = size + 3
		}
		return halves{half(api.Copy, size, mode)}
	case n < 235:
		k := n - 163
		return halves{half(api.Add, 1+k/3%4, 0), half(api.Copy, 4+k%3, k/12)}
	case n < 247:
		k := n - 235
		return halves{half(api.Add, 1+k%4, 0), half(api.Copy, 4, 6+k/4)}
	}
	return halves{half(api.Copy, 4, n-247), half(api.Add, 1, 0)}
}

func TestP5CodesOfTheExamples(t *testing.T) {
	for n, want := range map[int]halves{
		0:   {half(api.Run, 0, 0)},
		1:   {half(api.Add, 0, 0)},
		18:  {half(api.Add, 17, 0)},
		19:  {half(api.Copy, 0, 0)},
		20:  {half(api.Copy, 4, 0)},
		162: {half(api.Copy, 18, 8)},
		163: {half(api.Add, 1, 0), half(api.Copy, 4, 0)},
		165: {half(api.Add, 1, 0), half(api.Copy, 6, 0)},
		166: {half(api.Add, 2, 0), half(api.Copy, 4, 0)},
		234: {half(api.Add, 4, 0), half(api.Copy, 6, 5)},
		235: {half(api.Add, 1, 0), half(api.Copy, 4, 6)},
		246: {half(api.Add, 4, 0), half(api.Copy, 4, 8)},
		247: {half(api.Copy, 4, 0), half(api.Add, 1, 0)},
		255: {half(api.Copy, 4, 8), half(api.Add, 1, 0)},
	} {
		checkCode(t, n, want)
	}
}

func TestP5AllCodes(t *testing.T) {
	seen := map[halves]int{}
	for n := range 256 {
		want := wantCode(n)
		checkCode(t, n, want)
		if other, twice := seen[want]; twice {
			t.Errorf("this test gives the codes %d and %d the same instructions", other, n)
		}
		seen[want] = n
	}
}

func TestP5CodeRefused(t *testing.T) {
	for _, n := range []int{-1, -256, math.MinInt, 256, 257, 512, 1 << 32, math.MaxInt} {
		if first, second, e := code.Code(n); first != (api.Half{}) || second != (api.Half{}) || e != api.ErrArg {
			t.Errorf("P5: Code(%d) = %v, %v, %d, want nothing, ErrArg", n, first, second, e)
		}
	}
}
