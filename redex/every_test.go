package redex_test

import (
	"strings"
	"testing"

	"redex/api"
	"redex/redex"
)

// dice: a row of numbers that is the same in each run.
type dice struct{ last uint32 }

func (d *dice) roll(n int) int {
	d.last = d.last*1664525 + 1013904223
	return int(d.last>>8) % n
}

// pieces: what texts are thrown together from: whole programs, their parts, and what can stand nowhere.
var pieces = []string{
	"main = f (g 1 (g 2)) (g 3); f x y = + x y; g x = x;", "main=1;", "main = ", "f x y = ", "main", "f", "x", "=", ";", "(", ")", "(x)", "(f x)",
	" ", "\n", "1", "007", "1234567", "abcdefghi", "+", "-", "*", "<", "?", "A", "\x00", "\xff", "é", "\t",
	" 1 2 3 4 5 6 7 8", " a b c d e f g", strings.Repeat("(f ", 13),
}

func throw(d *dice) string {
	src := ""
	for range d.roll(12) {
		src += pieces[d.roll(len(pieces))]
	}
	if d.roll(50) == 0 {
		src = strings.Repeat(src, 40)
	}
	return src
}

// change: a program with one byte taken out, put in or written over.
func change(d *dice) string {
	src := pieces[0]
	at := d.roll(len(src))
	put := pieces[d.roll(len(pieces))]
	return src[:at] + put + src[at+d.roll(2):]
}

// holds: what holds for Check and Show at every text.
func holds(t *testing.T, src string) {
	t.Helper()
	at, e := redex.Check(src)
	shown, f := redex.Show(src)
	if f != e {
		t.Errorf("P3: Show(%.80q) answers the error %d, Check %d", src, f, e)
	}
	if (len(src) > api.MaxText) != (e == api.ErrLong) {
		t.Errorf("P3: Check(%.80q) of %d bytes = %d, %d", src, len(src), at, e)
	}
	if e < api.OK || e > api.ErrMain || at < 0 || at > len(src) {
		t.Errorf("P3: Check(%.80q) = %d, %d", src, at, e)
	}
	if at != 0 && (e == api.OK || e == api.ErrLong || e == api.ErrMain) {
		t.Errorf("P3: Check(%.80q) = %d, %d, want the place 0", src, at, e)
	}
	if e != api.OK {
		if shown != "" {
			t.Errorf("P1: Show(%.80q) = %q with the error %d", src, shown, e)
		}
		return
	}
	if len(shown) > api.MaxText {
		return
	}
	again, f := redex.Show(shown)
	if again != shown || f != api.OK {
		t.Errorf("P4: Show(%q) = %q, %d, want the same", shown, again, f)
	}
}

func TestP1EveryText(t *testing.T) {
	d := dice{1}
	for range 40000 {
		holds(t, throw(&d))
		holds(t, change(&d))
	}
	for b := range 256 {
		holds(t, string([]byte{byte(b)}))
		for c := range 256 {
			holds(t, string([]byte{byte(b), byte(c)}))
		}
	}
	for _, piece := range pieces {
		for n := range 200 {
			holds(t, strings.Repeat(piece, n))
			holds(t, "main = 1 "+strings.Repeat(piece, n))
		}
		holds(t, strings.Repeat(piece, 100000))
	}
}

// Answers hang on the arguments alone: not on what was asked before, nor on how often.
func TestP2SameAnswers(t *testing.T) {
	type answer struct {
		at    int
		e, f  api.Errno
		shown string
	}
	ask := func(src string) answer {
		var a answer
		a.at, a.e = redex.Check(src)
		a.shown, a.f = redex.Show(src)
		return a
	}
	var texts []string
	var first []answer
	d := dice{2}
	for i := range 2000 {
		src := throw(&d)
		if i%2 == 0 {
			src = change(&d)
		}
		texts = append(texts, src)
		first = append(first, ask(src))
	}
	for i := len(texts) - 1; i >= 0; i-- {
		// A text with the same bytes in another place of the memory.
		copied := string([]byte(texts[i]))
		if a := ask(copied); a != first[i] {
			t.Errorf("P2: %.80q: %v, then %v", texts[i], first[i], a)
		}
	}
}

// What was answered stays as it is while other texts are shown.
func TestP2AnswersStay(t *testing.T) {
	one, _ := redex.Show("main=1;")
	for range 100 {
		redex.Show("f=2;main=f;")
	}
	if one != "main = 1;\n" {
		t.Errorf("P2: what was shown has become %q", one)
	}
}
