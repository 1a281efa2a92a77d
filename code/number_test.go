package code_test

import (
	"math"
	"strings"
	"testing"

	"tailor/api"
	"tailor/code"
)

// groupsOf writes a number by division, from its end on: another way than the program's.
func groupsOf(n int) string {
	text := string([]byte{byte(n % 128)})
	for n = n / 128; n > 0; n = n / 128 {
		text = string([]byte{byte(128 + n%128)}) + text
	}
	return text
}

func checkNumber(t *testing.T, n int, want string) {
	t.Helper()
	if text, e := code.Number(n); text != want || e != api.OK {
		t.Errorf("P3: Number(%d) = %q, %d, want %q, OK", n, text, e, want)
	}
}

func checkRead(t *testing.T, text string, at int, n int, end int) {
	t.Helper()
	if x, behind, e := code.Read(text, at); x != n || behind != end || e != api.OK {
		t.Errorf("P3: Read(%q, %d) = %d, %d, %d, want %d, %d, OK", text, at, x, behind, e, n, end)
	}
}

func checkReadRefused(t *testing.T, text string, at int, want api.Errno) {
	t.Helper()
	if x, behind, e := code.Read(text, at); x != 0 || behind != 0 || e != want {
		t.Errorf("P3: Read(%q, %d) = %d, %d, %d, want 0, 0, %d", text, at, x, behind, e, want)
	}
}

// numbersToTry: the first ones, and those around each power of two.
func numbersToTry() []int {
	var list []int
	for n := range 70000 {
		list = append(list, n)
	}
	for bit := 17; bit <= 31; bit++ {
		for off := -3; off <= 3; off++ {
			if n := 1<<bit + off; n <= api.MaxNumber {
				list = append(list, n)
			}
		}
	}
	return list
}

func TestP3NumberOfTheExamples(t *testing.T) {
	checkNumber(t, 0, "\x00")
	checkNumber(t, 127, "\x7f")
	checkNumber(t, 128, "\x81\x00")
	checkNumber(t, 16384, "\x81\x80\x00")
}

func TestP3NumberWhereTheGroupsGrow(t *testing.T) {
	checkNumber(t, 16383, "\xff\x7f")
	checkNumber(t, 1<<21-1, "\xff\xff\x7f")
	checkNumber(t, 1<<21, "\x81\x80\x80\x00")
	checkNumber(t, 1<<28-1, "\xff\xff\xff\x7f")
	checkNumber(t, 1<<28, "\x81\x80\x80\x80\x00")
	checkNumber(t, api.MaxNumber, "\x87\xff\xff\xff\x7f")
}

func TestP3NumberRefused(t *testing.T) {
	for _, n := range []int{-1, -128, math.MinInt32, math.MinInt, api.MaxNumber + 1, 1 << 32, 1<<32 + 5, 1 << 35, math.MaxInt} {
		if text, e := code.Number(n); text != "" || e != api.ErrArg {
			t.Errorf("P3: Number(%d) = %q, %d, want nothing, ErrArg", n, text, e)
		}
	}
}

func TestP3NumberAndReadAgree(t *testing.T) {
	for _, n := range numbersToTry() {
		want := groupsOf(n)
		checkNumber(t, n, want)
		checkRead(t, want, 0, n, len(want))
		checkRead(t, "\x81\x80"+want+"\xff", 2, n, 2+len(want))
		for cut := range len(want) {
			checkReadRefused(t, want[:cut], 0, api.ErrForm)
		}
	}
}

func TestP3ReadStopsBehindTheNumber(t *testing.T) {
	text := "\x05\x81\x00\x00\xff\x7f"
	checkRead(t, text, 0, 5, 1)
	checkRead(t, text, 1, 128, 3)
	checkRead(t, text, 2, 0, 3)
	checkRead(t, text, 3, 0, 4)
	checkRead(t, text, 4, 16383, 6)
	checkRead(t, text, 5, 127, 6)
}

func TestP3ReadOfAllShortTexts(t *testing.T) {
	numbers := map[string]int{}
	for n := range 1 << 14 {
		numbers[groupsOf(n)] = n
	}
	for a := range 256 {
		for b := range 256 {
			text := string([]byte{byte(a), byte(b)})
			if n, ok := numbers[text[:1]]; ok {
				checkRead(t, text, 0, n, 1)
			} else if n, ok := numbers[text]; ok {
				checkRead(t, text, 0, n, 2)
			} else {
				checkReadRefused(t, text, 0, api.ErrForm)
			}
		}
	}
}

func TestP3ReadOfAPlaceThatIsNotThere(t *testing.T) {
	for _, text := range []string{"", "\x00", "\x80", "\x81\x00", "\xff\xff"} {
		for _, at := range []int{-1, -2, math.MinInt, len(text) + 1, len(text) + 2, math.MaxInt} {
			checkReadRefused(t, text, at, api.ErrArg)
		}
	}
}

func TestP3ReadOfNoNumber(t *testing.T) {
	for _, text := range []string{"", "\x00", "\x81\x00", "\xff"} {
		checkReadRefused(t, text, len(text), api.ErrForm)
	}
	for _, text := range []string{
		"\x80", "\x80\x00", "\x80\x01", "\x80\x7f", "\x80\x81\x00", "\x80\x80\x80\x80\x00", "\x80\x87\xff\xff\xff\x7f", // a group too much
		"\x88\x80\x80\x80\x00", "\x8f\xff\xff\xff\x7f", "\xff\xff\xff\xff\x7f", // beyond MaxNumber
		"\x81\x80\x80\x80\x80\x00", "\x87\xff\xff\xff\xff\x7f", // and by one group more
		"\x81\x80\x80\x80\x80\x80\x80\x80\x80\x00", "\x82\x80\x80\x80\x80\x80\x80\x80\x80\x00", "\x84\x80\x80\x80\x80\x80\x80\x80\x80\x80\x05", // round a word of the machine
		strings.Repeat("\x80", 5000) + "\x00", strings.Repeat("\xff", 5000) + "\x7f",
	} {
		checkReadRefused(t, text, 0, api.ErrForm)
		checkReadRefused(t, "\x00"+text, 1, api.ErrForm)
	}
}
