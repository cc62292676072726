package redex_test

import (
	"fmt"
	"strings"
	"testing"

	"redex/api"
	"redex/redex"
)

func full(steps int) api.Result { return api.Result{Outcome: api.Full, Steps: steps} }

// runsIn checks a run in a heap, with budgets that suffice and with such as do not: where a step is
// due and the budget is spent, the heap does not count.
func runsIn(t *testing.T, text string, heap int, want api.Result) {
	t.Helper()
	for budget := 0; budget <= want.Steps+2 && budget <= api.MaxBudget; budget++ {
		if budget > 50 && budget < want.Steps-5 && budget%97 != 0 {
			continue
		}
		wanted := wantWith(want, budget)
		if want.Outcome == api.Full && budget == want.Steps {
			wanted = spent(budget)
		}
		runsInTo(t, text, budget, heap, wanted)
	}
	if want.Outcome != api.Spent {
		runsInTo(t, text, api.MaxBudget, heap, want)
	}
}

func runsInTo(t *testing.T, text string, budget, heap int, want api.Result) {
	t.Helper()
	r, e := redex.Run(text, budget, heap)
	if r != want || e != api.OK {
		t.Fatalf("P10: Run(%q, %d, %d) = %+v, %d, want %+v", text, budget, heap, r, e, want)
	}
}

// fills checks a run in every heap: in the heap h it is Full after fulls[h] steps; in one of as many
// nodes as there are such numbers, and in a greater one, it comes to what is wanted.
func fills(t *testing.T, text string, want api.Result, fulls ...int) {
	t.Helper()
	for heap, steps := range fulls {
		runsIn(t, text, heap, full(steps))
	}
	for _, heap := range []int{0, 1, 2, 12, api.MaxHeap - len(fulls) - 1, api.MaxHeap - len(fulls)} {
		runsIn(t, text, len(fulls)+heap, want)
	}
}

func compiled(t *testing.T, src string) string {
	t.Helper()
	text, e := redex.Compile(src)
	if e != api.OK {
		t.Fatalf("Compile(%q) = %d", src, e)
	}
	return text
}

// filling: a program, what it comes to, and the steps after which it is Full in the heaps 0, 1, and so on.
type filling struct {
	src   string
	want  api.Result
	fulls []int
}

func fillsAll(t *testing.T, list []filling) {
	t.Helper()
	for _, x := range list {
		fills(t, compiled(t, x.src), x.want, x.fulls...)
	}
}

// The example 8 of the document.
func TestP10Example(t *testing.T) {
	text := compiled(t, "main = l 100; l n = ? n 0 (k 7) l (- n 1); k x y = x;")
	runsInTo(t, text, 2000, 4, number(7, 304))
	runsInTo(t, text, 2000, 3, full(6))
	fills(t, text, number(7, 304), 1, 1, 3, 6)
}

// A heap of as many nodes as a run needs, of one less, and of none.
func TestP10Full(t *testing.T) {
	fillsAll(t, []filling{
		{"main = 5;", number(5, 1), nil},
		{"main = 5 6;", wrong(1), nil},
		{"main = +;", function(1), nil},
		{"main = * 999999 999999;", over(2), nil},
		{"main = d (+ 1 2); d x = * x x;", number(9, 4), []int{0}},
		{"main = + (+ 1 2) (+ 3 4);", number(10, 4), []int{0, 0}},
		{"main = + (+ 1 2) (1 2);", wrong(2), []int{0, 0}},
		{"main = + (* 999999 999999) 3;", over(2), []int{0}},
		{"main = k (k 1 2); k x y = x;", function(1), []int{0}},
		{"main = f 1; f x = i (i x); i x = x;", number(1, 4), []int{1}},
		{"main = f (i 1); f x = i (i x); i x = x;", number(1, 5), []int{0, 1}},
	})
	for inner := range api.MaxNodes + 1 {
		fulls := make([]int, inner)
		unused := fmt.Sprintf("F 0 %d|n5|", inner) + strings.Repeat("n1 n2|", inner)
		fills(t, barred("M 0 1|"+unused), number(5, 1), fulls...)
		for i := range fulls {
			fulls[i] = 1
		}
		fills(t, barred("M 1 2|"+unused+"F 0 0|f0|"), number(5, 2), fulls...)
	}
}

// The step of a function without inner applications, and that of a primitive, need no room.
func TestP10NoRoom(t *testing.T) {
	fillsAll(t, []filling{
		{"main = i 5; i x = x;", number(5, 2), nil},
		{"main = f 1 2; f x y = + x y;", number(3, 3), nil},
		{"main = i (i (i 5)); i x = x;", number(5, 4), []int{0, 0}},
		{"main = k 5 (i (i 5)); i x = x; k x y = i x;", number(5, 3), []int{0, 0}},
		{"main = + (+ 1 2) (i (+ 3 4)); i x = x;", number(10, 5), []int{0, 0, 0}},
		{"main = ? (i 1) (i 2) (i 3) (i 4); i x = x;", number(4, 5), []int{0, 0, 0, 0}},
	})
	for _, src := range []string{"main = main;", "main = f 1; f n = f n n;", "main = f 1 2; f x y = f y x;"} {
		for _, heap := range []int{0, 1, api.MaxHeap} {
			runsIn(t, compiled(t, src), heap, spent(api.MaxBudget))
		}
	}
}

// Where a step is due and the budget is spent, the outcome is Spent in whatever heap.
func TestP10BudgetFirst(t *testing.T) {
	text := compiled(t, "main = f 1; f x = g (+ x 1); g x = f (+ x 1);")
	for _, budget := range []int{0, 1, 2, 3, 10, 100} {
		for heap := range budget + 3 {
			want := full(heap + 1)
			if heap+1 >= budget {
				want = spent(budget)
			}
			runsInTo(t, text, budget, heap, want)
		}
	}
	for heap := range 20 {
		runsInTo(t, barred("M 0 1|F 0 12|n5|"+strings.Repeat("n1 n2|", 12)), 0, heap, spent(0))
	}
}

const (
	single = "p x = i (i 7); i x = x;"                   // a step with one new node
	three  = "big x = i (i (i (i 7))); i x = x;"         // a step with three
	after  = "a x = q; q = i (i 7); i x = x; k x y = x;" // one that is due when an argument has gone
)

// What the items of the stack point to is needed: the arguments of the function that is due, what is
// behind them, and what lies below the frames.
func TestP10Stack(t *testing.T) {
	fillsAll(t, []filling{
		{"main = p (+ 1 2); " + single, number(7, 4), []int{0, 1}},
		{"main = k p (+ 1 2) 7; k x y = x; " + single, number(7, 5), []int{0}},
		{"main = p 7 (+ 1 2); p x = k (i x); k x y = x; i x = x;", number(7, 4), []int{0, 1}},
		{"main = j p 7 (+ 1 2); j x = x; p x = k (i x); k x y = x; i x = x;", number(7, 5), []int{0, 2}},
		// The second argument lies below the first frame, the third and the fourth below both.
		{"main = + q (+ 1 2); " + after, number(10, 6), []int{0, 1}},
		{"main = < 1 q (+ 1 2) 0; " + after, number(3, 6), []int{0, 1}},
		{"main = < q 9 (+ 1 2) 0; " + after, number(3, 6), []int{0, 1}},
		{"main = ? 1 q 0 (+ 1 2); " + after, number(3, 6), []int{0, 1}},
		{"main = ? q 9 0 (+ 1 2); " + after, number(3, 6), []int{0, 1}},
		{"main = < 1 q k k 3 (+ 1 2); " + after, number(3, 6), []int{0, 1}},
		{"main = + (+ q 0) (+ 1 2); " + after, number(10, 7), []int{0, 0, 1}},
		// The first argument, its value being there, and what was not chosen are needed no more.
		{"main = + (i 3) q; " + after, number(10, 6), []int{0}},
		{"main = < 1 2 q (+ 1 2); " + after, number(7, 5), []int{0}},
		{"main = < 2 1 (+ 1 2) q; " + after, number(7, 5), []int{0}},
	})
}

// What an update frame points to is needed, and so is what its node held when it was entered.
func TestP10Update(t *testing.T) {
	fillsAll(t, []filling{
		{"main = i (p 1); " + single, number(7, 5), []int{0, 2}},
		{"main = i (i (i (p 1))); " + single, number(7, 7), []int{0, 0, 0, 4}},
		{"main = i (a 1); " + after, number(7, 6), []int{0, 3}},
		{"main = i (a (i (+ 1 2))); " + after, number(7, 6), []int{0, 0, 0, 3}},
		{"main = a (i (+ 1 2)); " + after, number(7, 5), []int{0, 0}},
		{"main = + (p 7) (+ 1 2); " + single, number(10, 6), []int{0, 0, 1}},
	})
}

// What needed nodes point to is needed; a node that is pointed to twice is one node; one that
// nothing points to is none.
func TestP10Nodes(t *testing.T) {
	fillsAll(t, []filling{
		{"main = p (i (i (i 1))); " + single, number(7, 4), []int{0, 0, 0, 1}},
		{"main = p (+ (i 1) (i (i 2))); " + single, number(7, 4), []int{0, 0, 0, 0, 1}},
		{"main = r (i 1); r x = s x x; s x y = i (i 7); i x = x;", number(7, 5), []int{0, 2}},
		{"main = r (i 1); r x = p (+ x x); " + single, number(7, 5), []int{0, 1, 2}},
		{"main = r (i 1) (i 2); r x y = p (+ x x); " + single, number(7, 5), []int{0, 0, 1}},
	})
	const last = "F 2 1|f2 x0|f2 n7|F 1 0|a0|"
	for _, x := range []struct {
		text  string
		fulls []int
	}{
		{"M 0 3|F 0 1|f1 x0 x0|p0 n1 n2|", []int{0, 1}},
		{"M 0 3|F 0 2|f1 x0 x1|p0 n1 n2|p0 n1 n2|", []int{0, 0, 1}},
		{"M 0 3|F 0 3|f1 x0 x1|f2 x2|f2 x2|f2 n1|", []int{0, 0, 0, 1}},
		{"M 0 3|F 0 3|f1 x0 x0|f2 x1|f2 x2|f2 n1|", []int{0, 0, 0, 1}},
		{"M 0 3|F 0 3|f1 x0 x0|f2 x1 x2|f2 x2|f2 n1|", []int{0, 0, 0, 1}},
		{"M 0 3|F 0 3|f1 x2 x2|f2 x1|f2 x2|f2 n1|", []int{0, 0, 0}},
		{"M 0 3|F 0 3|f1 x1 n1|f2 x1|f2 x2|f2 n1|", []int{0, 0, 0}},
		{"M 0 3|F 0 3|f1 n1 n2|f2 x1|f2 x2|f2 n1|", []int{0, 0, 0}},
		{"M 0 3|F 0 1|f1 n1 n2|f2 n1|", []int{0}},
	} {
		fills(t, barred(x.text+last), number(7, 4), x.fulls...)
	}
}

// A node that is done is needed as long as something points to it. It points to what its value
// holds, and no more to what it held.
func TestP10Done(t *testing.T) {
	fillsAll(t, []filling{
		{"main = f (+ 1 2); f x = ? x 3 (p x) 0; p x = i (i x); i x = x;", number(3, 7), []int{0, 1, 4}},
		{"main = f (i r); r h = h 7; f g = < (g i) 9 g 0 big; " + three, number(7, 12), []int{0, 1, 7}},
		{"main = f (i r); r h = h 7; f g = g big; " + three, number(7, 9), []int{0, 4, 4}},
		{"main = f (+ (i 1) (i 2)); f x = ? x 3 big 0 x; " + three, number(7, 11), []int{0, 0, 0, 6}},
		{"main = f (j (i 5)); j y = k y; k x y = x; f g = < (g 1) 9 big 0 g; " + three, number(7, 11), []int{0, 0, 1, 6, 6}},
		{"main = f (j (i 5) (i 6)); j y z = k y; k x y = x; f g = < (g 1) 9 big 0 g; " + three, number(7, 11), []int{0, 0, 0, 1, 6}},
	})
}

// Loops that run as long as the budget allows in a heap of a few nodes.
func TestP10RoomIsMade(t *testing.T) {
	for n := range 666 {
		text := compiled(t, fmt.Sprintf("main = l %d; l n = ? n 0 (k 7) l (- n 1); k x y = x;", n))
		runsInTo(t, text, api.MaxBudget, 4, wantWith(number(7, 3*n+4), api.MaxBudget))
	}
	for _, x := range []filling{
		{"main = f 1; f x = g (i x); g x = f 1; i x = x;", spent(2000), []int{1}},
		{"main = f 1; f x = ? (g x) 2 f 0 1; g x = + x (i 1); i x = x;", spent(2000), []int{1, 2}},
		{"main = f 3; f x = ? x 3 f 0 (+ 1 2);", spent(2000), []int{1, 3}},
		{"main = f 1 2; f x y = k f y x (+ x y) (+ y x); k a b c d e = a b c;", spent(2000), []int{1, 1}},
	} {
		fills(t, compiled(t, x.src), x.want, x.fulls...)
	}
	garbage := barred("M 0 1|F 0 12|f0|" + strings.Repeat("f0 f0 f0 f0 f0 f0 f0 f0|", 12))
	fills(t, garbage, spent(api.MaxBudget), make([]int, 12)...)
}

// growing: each step has 12 new nodes, and all that there were before are needed.
func growing() string {
	text := "M 0 2|F 0 12|f1 x0|"
	for i := range 11 {
		text += fmt.Sprintf("n1 x%d|", i+1)
	}
	text += "n1 n1|F 1 12|f1 x0|"
	for i := range 11 {
		text += fmt.Sprintf("n1 x%d|", i+1)
	}
	return barred(text + "n1 a0|")
}

// With a heap of 12 times the budget no run is Full; there is one that needs all of that.
func TestP10TwelveTimes(t *testing.T) {
	for _, budget := range []int{1, 2, 3, 10, 100, 1999, 2000} {
		runsInTo(t, growing(), budget, 12*budget, spent(budget))
		runsInTo(t, growing(), budget, 12*budget-1, full(budget-1))
		runsInTo(t, growing(), budget, 12*budget-12, full(budget-1))
		if budget > 1 {
			runsInTo(t, growing(), budget, 12*budget-13, full(budget-2))
		}
	}
	text := compiled(t, "main = w 1; w x = w (+ x 1);")
	for _, heap := range []int{0, 1, 2, 100, 1997, 1998} {
		runsInTo(t, text, api.MaxBudget, heap, full(heap+1))
	}
	for _, heap := range []int{1999, 2000, api.MaxHeap} {
		runsInTo(t, text, api.MaxBudget, heap, spent(api.MaxBudget))
	}
}

// Eval has the heap MaxHeap, which no run fills.
func TestP11Heap(t *testing.T) {
	chain := "1 x"
	for range 11 {
		chain = "1 (" + chain + ")"
	}
	src := "main = w (" + strings.ReplaceAll(chain, "x", "1") + "); w x = w (" + chain + ");"
	for _, budget := range []int{0, 1, 2, 100, 1999, 2000} {
		evalsTo(t, src, budget, spent(budget))
	}
	runsInTo(t, compiled(t, src), api.MaxBudget, api.MaxHeap-1, full(1999))
	runsInTo(t, compiled(t, src), api.MaxBudget, api.MaxHeap, spent(2000))
}

// A run whose heap is full of needed nodes nearly all the time: each round wants room for one more.
func TestP10FullForLong(t *testing.T) {
	nodes := "1" + strings.Repeat(" x", 7)
	for range 7 {
		nodes = "1 (" + nodes + ")"
	}
	src := "main = f 200 1; f n x = ? n 0 (l 1) (f (- n 1)) (" + nodes + "); l n x = l (i 1) x; i x = x;"
	text := compiled(t, src)
	b := account(codeRead(t, text), 700)
	for _, heap := range []int{b.most() - 1, b.most(), b.most() + 1} {
		runsInTo(t, text, 700, heap, b.in(heap))
	}
	r, e := redex.Run(text, api.MaxBudget, b.most())
	if r != spent(2000) || e != api.OK {
		t.Errorf("P10: Run(%q, 2000, %d) = %+v, %d", text, b.most(), r, e)
	}
}
