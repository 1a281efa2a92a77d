package code_test

import (
	"math"
	"strings"
	"sync"
	"testing"

	"tailor/api"
	"tailor/code"
)

// answers is all that the calls answer to some numbers and texts.
type answers struct {
	text          string
	e             api.Errno
	number, end   int
	readE         api.Errno
	sum           string
	first, second api.Half
	codeE         api.Errno
}

func ask(n int, text string) answers {
	var a answers
	a.text, a.e = code.Number(n)
	a.number, a.end, a.readE = code.Read(text, n)
	a.sum = code.Sum(text)
	a.first, a.second, a.codeE = code.Code(n)
	return a
}

func oddNumbers() []int {
	list := []int{math.MinInt, math.MinInt + 1, math.MinInt32, math.MaxInt32, math.MaxInt - 1, math.MaxInt}
	for n := -5; n < 300; n++ {
		list = append(list, n)
	}
	for bit := range 63 {
		list = append(list, 1<<bit-1, 1<<bit, -1<<bit)
	}
	return list
}

func oddTexts() []string {
	list := []string{"", "abc", "é\u2028", "\xff\xfe", strings.Repeat("\x80", 400), strings.Repeat("\xff", 400), strings.Repeat("\x00", 400)}
	for b := range 256 {
		list = append(list, string([]byte{byte(b)}), string([]byte{byte(b), 0}), string([]byte{0x81, byte(b), 0x80, byte(b)}))
	}
	return list
}

func TestP1NoCallPanicsAndErrorsStandAlone(t *testing.T) {
	for _, n := range oddNumbers() {
		for _, text := range oddTexts() {
			a := ask(n, text)
			if a.e != api.OK && a.text != "" {
				t.Errorf("P1: Number(%d) = %q beside the error %d", n, a.text, a.e)
			}
			if a.readE != api.OK && (a.number != 0 || a.end != 0) {
				t.Errorf("P1: Read(%q, %d) = %d, %d beside the error %d", text, n, a.number, a.end, a.readE)
			}
			if a.codeE != api.OK && (a.first != api.Half{} || a.second != api.Half{}) {
				t.Errorf("P1: Code(%d) = %v, %v beside the error %d", n, a.first, a.second, a.codeE)
			}
			if len(a.sum) != 4 {
				t.Errorf("P1: Sum(%q) = %q", text, a.sum)
			}
		}
	}
}

func TestP1TheErrorThatIsNamedFirst(t *testing.T) {
	// Neither a place of the text nor a number there: the place is named first.
	checkReadRefused(t, "\x80", 2, api.ErrArg)
	checkReadRefused(t, "\x80", -1, api.ErrArg)
	checkReadRefused(t, "", 1, api.ErrArg)
}

func TestP2AnswersDependOnArgumentsAlone(t *testing.T) {
	numbers, texts := oddNumbers(), oddTexts()
	var before []answers
	for i, n := range numbers {
		before = append(before, ask(n, texts[i%len(texts)]))
	}
	var wait sync.WaitGroup
	for start := range 8 {
		wait.Go(func() {
			for k := range numbers {
				i := (len(numbers)*(start+1) - k) % len(numbers) // another order than the first time
				if a := ask(numbers[i], texts[i%len(texts)]); a != before[i] {
					t.Errorf("P2: of %d and %q first %v, then %v", numbers[i], texts[i%len(texts)], before[i], a)
				}
			}
		})
	}
	wait.Wait()
}

func TestP2WhatIsHandedOutIsNotKept(t *testing.T) {
	first, second, _ := code.Code(163)
	first.Size, second.Mode = 99, 99
	checkCode(t, 163, halves{half(api.Add, 1, 0), half(api.Copy, 4, 0)})
}
