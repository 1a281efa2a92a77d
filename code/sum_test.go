package code_test

import (
	"hash/adler32"
	"strings"
	"testing"

	"tailor/code"
)

func checkSum(t *testing.T, text string, want string) {
	t.Helper()
	if sum := code.Sum(text); sum != want {
		t.Errorf("P4: Sum(%.20q, of %d bytes) = %q, want %q", text, len(text), sum, want)
	}
}

func TestP4SumOfTheExamples(t *testing.T) {
	checkSum(t, "", "\x00\x00\x00\x01")
	checkSum(t, "abc", "\x02\x4d\x01\x27")
}

func TestP4SumOfBytesNotOfRunes(t *testing.T) {
	checkSum(t, "\x00", "\x00\x01\x00\x01")
	checkSum(t, "\xff", "\x01\x00\x01\x00")
	checkSum(t, "é", "\x02\x31\x01\x6d") // c3 a9: a is 196, then 365; b 196, then 561
	checkSum(t, "\xff\xfe", "\x02\xfe\x01\xfe")
}

func TestP4SumWhereTheRestsBegin(t *testing.T) {
	// 256 bytes of 255 and one of 239 bring a to 65520, one of 240 to 65521, of which the rest is 0.
	full := strings.Repeat("\xff", 256)
	for _, last := range []string{"\xee", "\xef", "\xf0", "\xf1"} {
		checkSum(t, full+last, adler(full+last))
	}
	if sum := code.Sum(full + "\xef"); sum[2:] != "\xff\xf0" {
		t.Errorf("P4: the greatest a = %q", sum[2:])
	}
	if sum := code.Sum(full + "\xf0"); sum[2:] != "\x00\x00" {
		t.Errorf("P4: a of which the rest is 0 = %q", sum[2:])
	}
}

func TestP4SumOfLongTexts(t *testing.T) {
	for _, piece := range []string{"\x00", "\xff", "abc", "\xff\x00\x80\x7f\x01"} {
		for _, times := range []int{1, 2, 255, 360, 363, 4000, 5552, 5553, 100000} {
			text := strings.Repeat(piece, times)
			checkSum(t, text, adler(text))
		}
	}
}

// adler is the same sum as the library has it.
func adler(text string) string {
	n := adler32.Checksum([]byte(text))
	return string([]byte{byte(n >> 24), byte(n >> 16), byte(n >> 8), byte(n)})
}
