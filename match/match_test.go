package match_test

import (
	"math/rand/v2"
	"strings"
	"testing"

	"tailor/match"
)

// longest: the plain way, each place to its end.
func longest(text string, places int, sought string) (int, int) {
	at, most := 0, 0
	for place := range places {
		size := 0
		for size < len(sought) && place+size < len(text) && text[place+size] == sought[size] {
			size++
		}
		if size > most {
			at, most = place, size
		}
	}
	return at, most
}

func check(t *testing.T, text string, places int, sought string) {
	t.Helper()
	at, size := match.Longest(text, places, sought)
	wantAt, wantSize := longest(text, places, sought)
	if at != wantAt || size != wantSize {
		t.Errorf("Longest(%q, %d, %q) = %d, %d, want %d, %d", text, places, sought, at, size, wantAt, wantSize)
	}
}

func TestP8AndP10LongestAtTheEdges(t *testing.T) {
	for _, c := range []struct {
		text   string
		places int
		sought string
	}{
		{"", 0, ""}, {"", 0, "abc"}, {"abc", 3, ""}, {"abc", 0, "abc"},
		{"abc", 3, "abc"},     // all of it
		{"xxabc", 5, "abcd"},  // up to the end of the text
		{"abxabcx", 7, "abc"}, // not the first place that has some
		{"abcxabc", 7, "abc"}, // the first place that has all
		{"xabcd", 1, "abcd"},  // a place beyond those that count
		{"aaaa", 4, "aaaaaaaa"},
		{"abababab", 2, "ababab"}, // into itself
		{"\x00\xff\x00", 3, "\xff\x00\x00"},
	} {
		check(t, c.text, c.places, c.sought)
	}
}

func TestP8AndP10LongestOfTextsByChance(t *testing.T) {
	chance := rand.New(rand.NewPCG(3, 5))
	text := func(most int) string {
		bytes := make([]byte, chance.IntN(most))
		for i := range bytes {
			bytes[i] = byte('a' + chance.IntN(3))
		}
		return strings.Repeat(string(bytes), 1+chance.IntN(2))
	}
	for range 20000 {
		within, sought := text(30), text(12)
		check(t, within, chance.IntN(len(within)+1), sought)
	}
}

func TestP12Front(t *testing.T) {
	for _, c := range []struct {
		text, other string
		want        int
	}{
		{"", "", 0}, {"", "a", 0}, {"a", "", 0}, {"a", "b", 0}, {"ab", "cb", 0},
		{"abc", "abd", 2}, {"abcx", "abdx", 2},
		{"abc", "abc", 3}, {"abc", "abcd", 3}, {"abcd", "abc", 3},
		{"\x00\xff", "\x00\xff\x00", 2},
	} {
		if size := match.Front(c.text, c.other); size != c.want {
			t.Errorf("Front(%q, %q) = %d, want %d", c.text, c.other, size, c.want)
		}
	}
}
