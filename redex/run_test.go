package redex_test

import (
	"fmt"
	"strings"
	"testing"

	"redex/api"
	"redex/redex"
)

func number(value, steps int) api.Result {
	return api.Result{Outcome: api.Number, Value: value, Steps: steps}
}

func function(steps int) api.Result { return api.Result{Outcome: api.Function, Steps: steps} }
func wrong(steps int) api.Result    { return api.Result{Outcome: api.Wrong, Steps: steps} }
func over(steps int) api.Result     { return api.Result{Outcome: api.Over, Steps: steps} }
func spent(steps int) api.Result    { return api.Result{Outcome: api.Spent, Steps: steps} }

// runsTo checks a run, with a heap that every run with this budget has room in.
func runsTo(t *testing.T, text string, budget int, want api.Result) {
	t.Helper()
	for _, heap := range []int{12 * budget, api.MaxHeap} {
		r, e := redex.Run(text, budget, heap)
		if r != want || e != api.OK {
			t.Errorf("P8, P9: Run(%q, %d, %d) = %+v, %d, want %+v", text, budget, heap, r, e, want)
		}
	}
}

// runs checks what a code text comes to: with a budget below its steps it is Spent when the budget
// is, with each other one it comes to the same.
func runs(t *testing.T, text string, want api.Result) {
	t.Helper()
	for budget := range want.Steps {
		runsTo(t, text, budget, spent(budget))
	}
	for _, budget := range []int{want.Steps, want.Steps + 1, want.Steps + 2, api.MaxBudget - 1, api.MaxBudget} {
		if budget <= api.MaxBudget {
			runsTo(t, text, budget, want)
		}
	}
}

// evals checks what a program comes to, by Eval and by Run.
func evals(t *testing.T, src string, want api.Result) {
	t.Helper()
	for budget := 0; budget <= want.Steps+2 && budget <= api.MaxBudget; budget++ {
		evalsTo(t, src, budget, wantWith(want, budget))
	}
	evalsTo(t, src, api.MaxBudget, want)
	runs(t, compiled(t, src), want)
}

// wantWith: what is wanted with this budget, if this is wanted with one that suffices.
func wantWith(want api.Result, budget int) api.Result {
	if budget < want.Steps {
		return spent(budget)
	}
	return want
}

func evalsTo(t *testing.T, src string, budget int, want api.Result) {
	t.Helper()
	r, e := redex.Eval(src, budget)
	if r != want || e != api.OK {
		t.Errorf("P11: Eval(%q, %d) = %+v, %d, want %+v", src, budget, r, e, want)
	}
}

func evalsAll(t *testing.T, list []evaluation) {
	t.Helper()
	for _, x := range list {
		evals(t, x.src, x.want)
	}
}

type evaluation struct {
	src  string
	want api.Result
}

// The examples 6 and 7 of the document.
func TestP11Examples(t *testing.T) {
	evalsTo(t, "main = + 2 3;", 2000, number(5, 2))
	evalsTo(t, "main = + 2 3;", 1, spent(1))
	evalsTo(t, "main = + 2 3;", 0, spent(0))
	evalsTo(t, "main = main;", 9, spent(9))
	evalsAll(t, []evaluation{
		{"main = + 2 3;", number(5, 2)},
		{"main = k 7 (main2 1); k x y = x; main2 x = main2 x;", number(7, 2)},
		{"main = d (+ 1 2); d x = * x x;", number(9, 4)},
		{"main = k; k x y = x;", function(1)},
		{"main = 1 2;", wrong(1)},
		{"main = + k 1; k x = x;", wrong(1)},
		{"main = * 999999 999999;", over(2)},
		{"main = < 1 2 3 4;", number(3, 2)},
		{"main = ? 1 2 3 4;", number(4, 2)},
	})
}

// edges: numbers that a budget or a heap may be, by which of them may stand up to a bound.
func edges(most int) (good, bad []int) {
	return []int{0, 1, most - 1, most}, []int{-1, most + 1, least, least + 1, greatest - 1, greatest, 1 << 32, -1 << 32, 1<<32 + 1}
}

// Code without nodes, and for each budget what it comes to.
func TestP8BudgetAndHeap(t *testing.T) {
	text := barred("M 0 1|F 0 0|p0 n2 n3|")
	budgets, badBudgets := edges(api.MaxBudget)
	heaps, badHeaps := edges(api.MaxHeap)
	for _, budget := range budgets {
		for _, heap := range heaps {
			r, e := redex.Run(text, budget, heap)
			if r != wantWith(number(5, 2), budget) || e != api.OK {
				t.Errorf("P8: Run(%q, %d, %d) = %+v, %d", text, budget, heap, r, e)
			}
		}
		for _, heap := range badHeaps {
			runFails(t, text, budget, heap, api.ErrArg)
		}
	}
	for _, budget := range badBudgets {
		for _, heap := range append(append([]int{}, heaps...), badHeaps...) {
			runFails(t, text, budget, heap, api.ErrArg)
		}
	}
}

func runFails(t *testing.T, text string, budget, heap int, want api.Errno) {
	t.Helper()
	r, e := redex.Run(text, budget, heap)
	if r != (api.Result{}) || e != want {
		t.Errorf("P8: Run(%.60q, %d, %d) = %+v, %d, want %d", text, budget, heap, r, e, want)
	}
}

// The error of Read is ahead of ErrArg.
func TestP8ReadFirst(t *testing.T) {
	budgets, badBudgets := edges(api.MaxBudget)
	heaps, badHeaps := edges(api.MaxHeap)
	for _, x := range []struct {
		text string
		e    api.Errno
	}{
		{"", api.ErrCode},
		{"main = 1;", api.ErrCode},
		{"M 0 1\nF 0 0\nn5", api.ErrCode},
		{"M 0 1\nF 0 0\nn1000000\n", api.ErrCode},
		{"M 0 1\nF 1 0\na0\n", api.ErrCode},
		{"M 0 1\nF 0 1\nx0 n1\nn1 n2\n", api.ErrCode},
		{"M 0 1\nF 0 0\nn5\n\n", api.ErrCode},
		{"M 0 1\nF 0 0\nf1\n", api.ErrCode},
		{strings.Repeat("x", 30000), api.ErrCode},
		{strings.Repeat("x", 30001), api.ErrLong},
		{"M 0 1\nF 0 0\nn5\n" + strings.Repeat("\n", 30000), api.ErrLong},
	} {
		for _, budget := range append(budgets, badBudgets...) {
			for _, heap := range append(heaps, badHeaps...) {
				runFails(t, x.text, budget, heap, x.e)
			}
		}
	}
}

func evalFails(t *testing.T, src string, budget int, want api.Errno) {
	t.Helper()
	r, e := redex.Eval(src, budget)
	if r != (api.Result{}) || e != want {
		t.Errorf("P11: Eval(%.60q, %d) = %+v, %d, want %d", src, budget, r, e, want)
	}
}

// The error of Check is ahead of ErrArg.
func TestP11CheckFirst(t *testing.T) {
	budgets, badBudgets := edges(api.MaxBudget)
	for _, x := range []struct {
		src string
		e   api.Errno
	}{
		{strings.Repeat(" ", 1001), api.ErrLong},
		{"main = 1;" + strings.Repeat(" ", 992), api.ErrLong},
		{"", api.ErrText},
		{"main = 1", api.ErrText},
		{"M 0 1\nF 0 0\nn5\n", api.ErrText},
		{"main = 1 2 3 4 5 6 7 8 9;", api.ErrLimit},
		{"main = 1; main = 1;", api.ErrTwice},
		{"main = x;", api.ErrName},
		{"f = 1;", api.ErrMain},
		{"main x = 1;", api.ErrMain},
	} {
		for _, budget := range append(budgets, badBudgets...) {
			evalFails(t, x.src, budget, x.e)
		}
	}
	for _, budget := range budgets {
		evalsTo(t, "main = + 2 3;", budget, wantWith(number(5, 2), budget))
	}
	for _, budget := range badBudgets {
		evalFails(t, "main = + 2 3;", budget, api.ErrArg)
	}
}

// Code that no program is turned into.
func TestP8CodeAlone(t *testing.T) {
	for _, x := range []struct {
		text string
		want api.Result
	}{
		{"M 0 1|F 0 0|n5|", number(5, 1)},
		{"M 0 1|F 0 0|n5 n6|", wrong(1)},
		{"M 0 1|F 0 0|n5 n5 n5 n5 n5 n5 n5 n5|", wrong(1)},
		{"M 0 1|F 0 1|n5 x0|n5 n5|", wrong(1)},
		// A node that is used twice, by the spine or by another node.
		{"M 0 1|F 0 1|p0 x0 x0|p0 n1 n2|", number(6, 3)},
		{"M 0 1|F 0 2|p2 x0 x1|p0 x1 n1|p0 n1 n2|", number(12, 4)},
		{"M 0 1|F 0 2|p2 x1 x0|p0 x1 n1|p0 n1 n2|", number(12, 4)},
		{"M 0 1|F 0 3|p2 x0 x1|p0 x2 x2|p1 x2 n1|p0 n1 n2|", number(12, 5)},
		{"M 0 1|F 0 3|p0 x0 x0|p0 x1 x1|p0 x2 x2|p0 n1 n1|", number(16, 5)},
		// A node that is not used at all, whatever it would come to.
		{"M 0 1|F 0 1|n5|n1 n2|", number(5, 1)},
		{"M 0 1|F 0 2|p0 n5 x1|n1 n2|p0 n1 n2|", number(8, 3)},
		{"M 0 1|F 0 2|p0 n5 x1|f0 x1|p0 n1 n2|", number(8, 3)},
		// A parameter as a head.
		{"M 1 2|F 1 0|a0 n4|F 0 1|f0 x0|p0 n3|", number(7, 3)},
		{"M 1 2|F 1 1|a0 x0|a0 n4|F 0 0|f0 p0|", function(2)},
		{"M 1 2|F 1 1|p0 x0 x0|a0 n4|F 0 1|f0 x0|p0 n3|", number(14, 4)},
		{"M 1 2|F 1 0|a0 n4|F 0 0|f0 n3|", wrong(2)},
		{"M 1 2|F 2 0|a1 a0 a0|F 0 0|f0 n4 p2|", number(16, 3)},
		{"M 1 2|F 1 0|a0 a0 a0|F 0 1|f0 x0|p0 n1 n2|", wrong(3)},
		// The lines stand in another order than the parentheses of a program would.
		{"M 0 1|F 0 3|p1 x2 x0|p0 n1 x1|p0 n2 n3|p2 n6 n7|", number(36, 5)},
		// Main is not the first function.
		{"M 2 3|F 0 0|n1|F 0 0|n2|F 0 0|n3|", number(3, 1)},
		{"M 1 3|F 0 0|n1|F 0 0|f2|F 0 0|f0|", number(1, 3)},
	} {
		runs(t, barred(x.text), x.want)
	}
}

// Each kind of atom in a spine and in a node, the nearest argument first, and what a frame keeps apart.
func TestP7Words(t *testing.T) {
	for _, x := range []struct {
		text string
		want api.Result
	}{
		{"M 0 2|F 0 0|f1 n1 n2 n3|F 3 0|a0|", number(1, 2)},
		{"M 0 2|F 0 0|f1 n1 n2 n3|F 3 0|a1|", number(2, 2)},
		{"M 0 2|F 0 0|f1 n1 n2 n3|F 3 0|a2|", number(3, 2)},
		{"M 0 2|F 0 0|f1 n1 n2 n3|F 3 0|p1 a2 a0|", number(2, 3)},
		{"M 0 2|F 0 1|f1 n1 p1 x0|f1 n2 p0 n5|F 3 0|a1 a2 a0|", number(6, 5)},
		{"M 0 2|F 0 1|f1 n1 f0 x0|f1 n2 n4 f1|F 3 0|a2 a0 n7 n8|", wrong(4)},
		{"M 0 2|F 0 1|f1 n1 f0 x0|f1 n2 n4 p2|F 3 0|a2 a0 n7 n8|", wrong(4)},
		{"M 0 2|F 0 1|f1 n3 x0|p1 n9|F 2 1|a1 x0|p2 a0 a0|", number(0, 4)},
		{"M 0 2|F 0 2|f1 n3 x0|p1 x1|p2 n5 n5|F 2 1|a1 x0|a1 a0|", number(3, 5)},
		// The items below a frame are no arguments of what is above it.
		{"M 0 2|F 0 1|f1 x0 n2 n3|p0 n1|F 1 1|p2 x0|a0 n2|", wrong(4)},
		{"M 0 2|F 0 1|f1 x0 n2|p0 n1|F 2 1|p2 x0 x0|a0 a1|", number(9, 4)},
		{"M 0 2|F 0 1|f1 x0 n2|p0 n1|F 1 0|a0|", number(3, 3)},
	} {
		runs(t, barred(x.text), x.want)
	}
}

// A number on top.
func TestP8Number(t *testing.T) {
	evalsAll(t, []evaluation{
		{"main = 0;", number(0, 1)},
		{"main = 999999;", number(999999, 1)},
		{"main = 5 main;", wrong(1)},
		{"main = 5 (f 1); f x = f x;", wrong(1)},
		{"main = f 5 6; f x y = x y;", wrong(2)},
		{"main = f 5 6; f x = x;", wrong(2)},
		{"main = f (+ 1 2) 6; f x = x;", wrong(3)},
		{"main = + 1 2 3;", wrong(2)},
	})
}

// row: so many arguments, 11, 12, and so on, with this one in the place of one of them.
func row(n, at int, this string) string {
	text := ""
	for i := range n {
		if i == at {
			text += " " + this
		} else {
			text += fmt.Sprintf(" %d", 11+i)
		}
	}
	return text
}

// A function on top: it has as many arguments as it wants, fewer, or more.
func TestP8Function(t *testing.T) {
	evals(t, "main = f; f = 3;", number(3, 2))
	evals(t, "main = f 1; f = 3;", wrong(2))
	evals(t, "main = f 1; f = + 2;", number(3, 3))
	evals(t, "main = f 1 2; f = +;", number(3, 3))
	for arity := 1; arity <= api.MaxParams; arity++ {
		parameters := " a b c d e g"[:2*arity]
		for at := range arity {
			f := "; h x = * x 2; f" + parameters + " = " + string("abcdeg"[at]) + ";"
			evals(t, "main = f"+row(arity, -1, "")+f, number(11+at, 2))
			evals(t, "main = f"+row(arity, at, "h")+f, function(2))
			evals(t, "main = f"+row(arity, at, "h")+" 21"+f, number(42, 4))
			evals(t, "main = f"+row(arity+1, -1, "")+f, wrong(2))
			evals(t, "main = f"+row(at, -1, "")+f, function(1))
			evals(t, "main = g"+row(arity, -1, "")+"; g = f"+f, number(11+at, 3))
			evals(t, "main = i (f"+row(at, -1, "")+")"+row(arity, -1, "")[3*at:]+"; i x = x"+f, number(11+at, 3))
		}
	}
	// More than it wants: the others are the arguments of what it comes to, in their order.
	evals(t, "main = f 1 2 20 3; f x = g x; g a b c = - c (- b a);", wrong(5))
	evals(t, "main = f 1 2 20; f x = g x; g a b c = - c (- b a);", number(19, 5))
	evals(t, "main = i i i i i i 5; i x = x;", number(5, 7))
	evals(t, "main = s k k 4; s f g x = f x (g x); k x y = x;", number(4, 3))
}

// A primitive on top: it has as many arguments as it wants, fewer, or more.
func TestP8Primitive(t *testing.T) {
	results := []int{9, 5, 14, 13, 14}
	for p, name := range strings.Split("+-*<?", "") {
		wants := 2
		if p >= api.Less {
			wants = 4
		}
		full := " 7 2 13 14"[:[]int{4, 4, 4, 10, 10}[p]]
		if p == api.Less {
			full = " 2 7 13 14"
		}
		evals(t, "main = "+name+full+";", number(results[p], 2))
		evals(t, "main = e"+full+"; e = "+name+";", number(results[p], 3))
		evals(t, "main = e"+full+"; e a b = "+name+" a b;", number(results[p], 3))
		evals(t, "main = "+name+full+" 1;", wrong(2))
		evals(t, "main = + 0 ("+name+full+");", number(results[p], 3))
		for n := range wants {
			few := strings.Join(strings.SplitAfter(full, " ")[:n+1], "")
			rest := strings.TrimPrefix(full, few)
			evals(t, "main = "+name+" "+few+";", function(1))
			evals(t, "main = i ("+name+" "+few+"); i x = x;", function(2))
			evals(t, "main = i ("+name+" "+few+") "+rest+"; i x = x;", number(results[p], 3))
			evals(t, "main = + 1 ("+name+" "+few+");", wrong(1))
			evals(t, "main = + ("+name+" "+few+") 1;", wrong(1))
		}
	}
	// More than it wants, and what it comes to wants them.
	evals(t, "main = < 1 2 + - 8 5;", number(13, 3))
	evals(t, "main = < 2 1 + - 8 5;", number(3, 3))
	evals(t, "main = ? 1 1 + - 8 5;", number(13, 3))
	evals(t, "main = ? 2 1 k f 8 5; k x y = x; f x y = y;", number(5, 3))
}

func TestP8LessAndSame(t *testing.T) {
	for _, x := range []struct{ a, b, less, same int }{
		{0, 0, 4, 3}, {1, 2, 3, 4}, {2, 1, 4, 4}, {2, 2, 4, 3}, {0, 1, 3, 4}, {999999, 999999, 4, 3}, {999998, 999999, 3, 4}, {999999, 999998, 4, 4},
	} {
		evals(t, fmt.Sprintf("main = < %d %d 3 4;", x.a, x.b), number(x.less, 2))
		evals(t, fmt.Sprintf("main = ? %d %d 3 4;", x.a, x.b), number(x.same, 2))
		evals(t, fmt.Sprintf("main = < (- 0 %d) (- 0 %d) 3 4;", x.b, x.a), number(x.less, 4))
		evals(t, fmt.Sprintf("main = ? (- 0 %d) (- 0 %d) 3 4;", x.b, x.a), number(x.same, 4))
	}
	evals(t, "main = < (- 0 1) 0 3 4;", number(3, 3))
	evals(t, "main = < 0 (- 0 1) 3 4;", number(4, 3))
	evals(t, "main = ? (- 0 1) 1 3 4;", number(4, 3))
	evals(t, "main = ? (- 0 5) (- 2 7) 3 4;", number(3, 4))
}

// Which argument is worked out first, and which one never. o comes to Over, n to Wrong, r runs on.
func TestP8Order(t *testing.T) {
	const rest = "; o = * 999999 999999; n = 1 1; r = r; k x y = x; l x y = y;"
	list := []evaluation{
		{"main = k 1 r", number(1, 2)},
		{"main = l r 1", number(1, 2)},
		{"main = k 1 (r 1 2)", number(1, 2)},
		{"main = k o r", over(4)},
		{"main = < 1 2 5 r", number(5, 2)},
		{"main = < 2 1 r 5", number(5, 2)},
		{"main = ? 1 1 5 r", number(5, 2)},
		{"main = ? 2 1 r 5", number(5, 2)},
		{"main = < 1 2 (+ 2 3) (r 1)", number(5, 3)},
		{"main = ? 1 2 (r 1) (+ 2 3)", number(5, 3)},
		{"main = 1 r", wrong(1)},
	}
	for _, p := range strings.Split("+-*<?", "") {
		list = append(list,
			evaluation{"main = " + p + " o n 1 1", over(3)},
			evaluation{"main = " + p + " n o 1 1", wrong(2)},
			evaluation{"main = " + p + " o r 1 1", over(3)},
			evaluation{"main = " + p + " n r 1 1", wrong(2)},
			evaluation{"main = " + p + " k r 1 1", wrong(1)},
			evaluation{"main = " + p + " (* 999999 999999) (1 1) n n", over(2)},
			evaluation{"main = " + p + " (1 1) (* 999999 999999) r r", wrong(1)},
			evaluation{"main = " + p + " 1 k r r", wrong(1)},
			evaluation{"main = " + p + " 1 (k r) r r", wrong(1)},
			evaluation{"main = " + p + " (k 1 r) (l r o) 1 1", over(5)},
			// Before all arguments are there, none is worked out.
			evaluation{"main = " + p + " r", function(1)},
		)
	}
	for _, x := range list {
		evals(t, x.src+rest, x.want)
	}
	for _, src := range []string{"main = r", "main = + r n", "main = + r o", "main = < 1 r 2 3", "main = ? 1 1 r n", "main = < 1 1 n r", "main = l o r"} {
		for _, budget := range []int{0, 1, 2, 10, api.MaxBudget} {
			evalsTo(t, src+rest, budget, spent(budget))
		}
	}
}

// A node that is asked for more than once is worked out once, and its steps are counted once.
func TestP8Shared(t *testing.T) {
	evalsAll(t, []evaluation{
		{"main = d (+ 1 2); d x = + x x;", number(6, 4)},
		{"main = d (+ 1 2); d x = + x (+ x x);", number(9, 5)},
		{"main = d (d (d 3)); d x = + x x;", number(24, 7)},
		{"main = f (+ 1 2) 0; f a b = + a (+ a b);", number(6, 5)},
		{"main = d (i (i (i 5))); i x = x; d x = * x x;", number(25, 6)},
		{"main = g (+ 1 2); g x = h x x; h x y = * x y;", number(9, 5)},
		{"main = g (+ 1 2); g x = h (+ x 1) (+ x 2); h x y = * (+ x y) (+ x y);", number(81, 9)},
		{"main = d (< 1 2 (+ 3 4) 5); d x = + x x;", number(14, 5)},
		// A function of no parameters is no node: its steps are made again.
		{"main = + c c; c = + 1 2;", number(6, 6)},
		// One that comes to the value of another: both are done.
		{"main = f (+ 1 2); f x = g x (i x); i x = x; g x y = + (+ y y) (+ x x);", number(12, 8)},
		{"main = f (i (+ 1 2)); i x = x; f x = + x x;", number(6, 5)},
	})
}

// A node that comes to a function or a primitive with too few arguments, and is given more later.
func TestP8SharedFunction(t *testing.T) {
	const rest = " k x y = x; t a b c = - (* 100 a) (+ (* 10 b) c);"
	for _, x := range []evaluation{
		{"main = f (+ 1); f g = g 2;", number(3, 3)},
		{"main = f (- 10); f g = - (g 2) (* 10 (g 3));", number(-62, 6)},
		{"main = f (t 1 2); f g = + (g 3) (* 1000 (g 4));", number(76077, 14)},
		{"main = f (t 1); f g = + (g 2 3) (* 1000 (g 3 4));", number(66077, 14)},
		{"main = f t; f g = g 3 2 1;", number(279, 7)},
		// The steps on the way to it are made once.
		{"main = f (m 1); m x = t x 2; f g = + (g 3) (* 1000 (g 4));", number(76077, 15)},
		{"main = f (m 1); m x = + (+ x 1); f g = * (g 3) (g 4);", number(30, 7)},
		{"main = f (m 7); m x = ? (+ x 1) 8 (t 1 2) k; f g = + (g 3) (* 1000 (g 4));", number(76077, 17)},
		{"main = f (i (i (t 1 2))); i x = x; f g = + (g 3) (* 1000 (g 4));", number(76077, 16)},
		// Its arguments are shared too: the sum is worked out once.
		{"main = f (+ (+ 1 2)); f g = * (g 3) (g 4);", number(42, 6)},
		{"main = f (< 1 2 3); f g = + (g 4) (g 5);", number(6, 5)},
		{"main = f (? 1 2 3); f g = + (g 4) (g 5);", number(9, 5)},
		{"main = f (? 1 2); f g = + (g 3 4) (g 5 6);", number(10, 5)},
		// One that wants none of what it was given.
		{"main = f (k 5); f g = + (g main) (g 1);", number(10, 5)},
		{"main = f (k 5); f g = g 1 2;", wrong(3)},
		{"main = f (k 5); f g = g;", function(2)},
		{"main = f (k 5); f g = + g 1;", wrong(2)},
		{"main = f (k 5); f g = + 1 g;", wrong(2)},
		{"main = f (k 5); f g = + (g 1) g;", wrong(3)},
		{"main = hd (cons 3 nil); hd l = l k 0; cons h t c n = c h t; nil c n = n;", number(3, 4)},
	} {
		evals(t, x.src+rest, x.want)
	}
}

// A value that is no number, where a primitive waits for one, by way of a node and without.
func TestP8NoNumber(t *testing.T) {
	for _, p := range strings.Split("+-*<?", "") {
		for _, v := range []string{"k", "(k 1)", "+", "(+ 1)", "?", "(? 1)", "(? 1 2)", "(< 1 2 3)"} {
			evals(t, "main = "+p+" "+v+" 1 2 3; k x y = x;", wrong(1))
			evals(t, "main = "+p+" 1 "+v+" 2 3; k x y = x;", wrong(1))
			evals(t, "main = "+p+" (i "+v+") 1 2 3; k x y = x; i x = x;", wrong(2))
			evals(t, "main = "+p+" 1 (i "+v+") 2 3; k x y = x; i x = x;", wrong(2))
			evals(t, "main = f "+v+"; f x = "+p+" 1 x 2 3; k x y = x;", wrong(2))
		}
	}
}

// The numbers up to MaxNum and down to its negative, and those beyond.
func TestP9Over(t *testing.T) {
	const rest = "; m = * 40000 25000; n = - 0 m;"
	for _, x := range []evaluation{
		{"main = m", number(1000000000, 3)},
		{"main = n", number(-1000000000, 5)},
		{"main = * 40000 25001", over(2)},
		{"main = + m 0", number(1000000000, 4)},
		{"main = + m 1", over(4)},
		{"main = + 1 m", over(4)},
		{"main = + (- m 1) 1", number(1000000000, 5)},
		{"main = + (- m 1) 2", over(5)},
		{"main = + m m", over(6)},
		{"main = + m n", number(0, 8)},
		{"main = + n n", over(10)},
		{"main = - m 0", number(1000000000, 4)},
		{"main = - m n", over(8)},
		{"main = - m (- 0 1)", over(5)},
		{"main = - n 0", number(-1000000000, 6)},
		{"main = - n 1", over(6)},
		{"main = - n m", over(8)},
		{"main = - n n", number(0, 10)},
		{"main = - (+ n 1) 1", number(-1000000000, 7)},
		{"main = - (+ n 1) 2", over(7)},
		{"main = * m 1", number(1000000000, 4)},
		{"main = * m 0", number(0, 4)},
		{"main = * m 2", over(4)},
		{"main = * m m", over(6)},
		{"main = * m n", over(8)},
		{"main = * n n", over(10)},
		{"main = * n 1", number(-1000000000, 6)},
		{"main = * n (- 0 1)", number(1000000000, 7)},
		{"main = * (- 0 40000) 25000", number(-1000000000, 3)},
		{"main = * (- 0 40000) 25001", over(3)},
		{"main = * (- 0 40000) (- 0 25000)", number(1000000000, 4)},
		{"main = * (- 0 40000) (- 0 25001)", over(4)},
		{"main = * 31623 31623", over(2)},
		{"main = * 31622 31622", number(999950884, 2)},
		{"main = * 999999 1000", number(999999000, 2)},
		{"main = * 999999 1001", over(2)},
		{"main = < n m 3 4", number(3, 8)},
		{"main = ? n m 3 4", number(4, 8)},
		{"main = ? m m 3 4", number(3, 6)},
		// It ends the run wherever it comes, but not where nobody asks.
		{"main = + 1 (* m 2)", over(4)},
		{"main = ? (* m 2) 1 2 3", over(4)},
		{"main = k 1 (* m 2); k x y = x", number(1, 2)},
		{"main = - 5 9", number(-4, 2)},
	} {
		evals(t, x.src+rest, x.want)
	}
}

// loop: a program that comes to 7 in 3 n + 3 steps.
func loop(n int) string {
	return fmt.Sprintf("main = l %d; l n = ? n 0 7 (l (- n 1)); i x = x;", n)
}

func TestP9Spent(t *testing.T) {
	for _, budget := range []int{0, 1, 2, 3, 100, 1000, 1999, 2000} {
		for _, src := range []string{"main = main;", "main = + 1 main;", "main = w w; w x = x x;", "main = r 1; r x = r (+ x x);"} {
			evalsTo(t, src, budget, spent(budget))
		}
		evalsTo(t, loop(700), budget, spent(budget))
		evalsTo(t, loop(666), budget, spent(budget))
		evalsTo(t, loop(665), budget, wantWith(number(7, 1998), budget))
		two := strings.Replace(loop(665), "l 665", "i (i (l 665))", 1)
		evalsTo(t, two, budget, wantWith(number(7, 2000), budget))
	}
	evals(t, loop(0), number(7, 3))
	evals(t, loop(1), number(7, 6))
	evals(t, loop(40), number(7, 123))
	// A step of a primitive is due ahead of what it would come to; no step is due where it is Wrong.
	evalsTo(t, "main = * 999999 999999;", 1, spent(1))
	evalsTo(t, "main = * 999999 999999;", 2, over(2))
	evalsTo(t, "main = < 1 2 3 4;", 1, spent(1))
	evalsTo(t, "main = + 1 (1 1);", 1, wrong(1))
	evalsTo(t, "main = + 1 +;", 1, wrong(1))
	evalsTo(t, "main = + 1;", 1, function(1))
	evalsTo(t, "main = 5;", 1, number(5, 1))
	evalsTo(t, "main = 5;", 0, spent(0))
}

// Programs of some length.
func TestP8Programs(t *testing.T) {
	const lists = "cons h t c n = c h t; nil c n = n; k x y = x; "
	for _, x := range []struct {
		src   string
		value int
	}{
		{"main = sum 100; sum n = ? n 0 0 (+ n (sum (- n 1)));", 5050},
		{"main = fib 10; fib n = < n 2 n (+ (fib (- n 1)) (fib (- n 2)));", 55},
		{"main = y fac 6; y f = f (y f); fac r n = ? n 0 1 (* n (r (- n 1)));", 720},
		{"main = tw tw tw inc 0; tw f x = f (f x); inc x = + x 1;", 16},
		{"main = l 100; l n = ? n 0 (k 7) l (- n 1); k x y = x;", 7},
		{"main = len (upto 0 12); len l = l lc 0; lc h t = + 1 (len t); upto a b = < a b (cons a (upto (+ a 1) b)) nil; " + lists, 12},
		{"main = fold - 0 (rev (upto 0 9) nil); fold f z l = l (fc f z) z; fc f z h t = f h (fold f z t); rev l a = l (rc a) a; rc a h t = rev t (cons h a); " +
			"upto a b = < a b (cons a (upto (+ a 1) b)) nil; " + lists, 4},
		{"main = gcd 84 36; gcd a b = ? a b a (< a b (gcd b a) (gcd (- a b) b));", 12},
	} {
		r, e := redex.Eval(x.src, api.MaxBudget)
		if r.Outcome != api.Number || r.Value != x.value || e != api.OK {
			t.Errorf("P8: Eval(%q) = %+v, %d, want %d", x.src, r, e, x.value)
		}
	}
}
