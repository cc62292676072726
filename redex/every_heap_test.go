package redex_test

import (
	"testing"

	"redex/api"
	"redex/redex"
)

// ledger: how many nodes there must be room for, if somebody keeps it.
type ledger struct {
	isKept bool
	kept   [][]part // what is still wanted when the application that is worked out has its value
	needs  []need
}

// need: after so many steps, a step is due that there must be room for so many nodes for.
type need struct{ steps, nodes int }

func (l *ledger) keep(parts []part) { l.kept = append(l.kept, parts) }
func (l *ledger) drop()             { l.kept = l.kept[:len(l.kept)-1] }

// need takes down what a step with so many new nodes needs, if no step ahead of it needed as much.
func (l *ledger) need(steps int, parts []part, inner int) {
	if !l.isKept {
		return
	}
	seen := map[*thunk]bool{}
	for _, kept := range l.kept {
		see(seen, kept)
	}
	see(seen, parts)
	nodes := len(seen) + inner
	if len(l.needs) == 0 || nodes > l.needs[len(l.needs)-1].nodes {
		l.needs = append(l.needs, need{steps, nodes})
	}
}

// see finds all thunks that are reached from the parts.
func see(seen map[*thunk]bool, parts []part) {
	for _, p := range parts {
		if p.thunk != nil && !seen[p.thunk] {
			seen[p.thunk] = true
			see(seen, p.thunk.parts)
		}
	}
}

// books: what a run comes to where there is room for all, and what it needs.
type books struct {
	budget int
	result api.Result
	needs  []need
}

func account(c api.Code, budget int) books {
	r := reducer{c: c, budget: budget, ledger: ledger{isKept: true}}
	result := r.run()
	return books{budget, result, r.ledger.needs}
}

// in: what the run comes to in this heap.
func (b books) in(heap int) api.Result {
	for _, n := range b.needs {
		if n.nodes > heap && n.steps < b.budget {
			return full(n.steps)
		}
	}
	return b.result
}

// most: the nodes that a heap must have room for.
func (b books) most() int {
	most := 0
	for _, n := range b.needs {
		if n.steps < b.budget {
			most = n.nodes
		}
	}
	return most
}

// sameHeaps: Run comes to what the books tell, in every heap.
func sameHeaps(t *testing.T, c api.Code, budget int) books {
	t.Helper()
	text := textOf(c)
	b := account(c, budget)
	heaps := []int{12 * budget, api.MaxHeap}
	for heap := range min(b.most()+2, api.MaxHeap) {
		heaps = append(heaps, heap)
	}
	for _, heap := range heaps {
		r, e := redex.Run(text, budget, heap)
		if r != b.in(heap) || e != api.OK {
			t.Fatalf("P10: Run(%q, %d, %d) = %+v, %d, want %+v", text, budget, heap, r, e, b.in(heap))
		}
	}
	return b
}

// In every heap the machine comes to what the books of another way of working things out tell.
func TestP10EveryCode(t *testing.T) {
	d := dice{14}
	growing, reused := 0, 0
	for i := range 2500 {
		c := throwLively(&d)
		if i%5 == 0 {
			c = throwCode(&d)
		}
		b := sameHeaps(t, c, 60)
		if len(b.needs) > 4 {
			growing++
		}
		if b.result.Steps > 20 && b.most() < 20 {
			reused++
		}
		sameHeaps(t, c, d.roll(b.result.Steps+2))
	}
	if growing < 300 || reused < 100 {
		t.Errorf("%d runs needed more and more, %d little for long", growing, reused)
	}
}

// Programs of some length, in heaps that they have room in and in such as they have none in.
func TestP10Programs(t *testing.T) {
	for _, x := range []struct {
		src    string
		budget int
	}{
		{"main = sum 40; sum n = ? n 0 0 (+ n (sum (- n 1)));", 300},
		{"main = sum 40 0; sum n a = ? n 0 a (sum (- n 1) (+ n a));", 300},
		{"main = fib 7; fib n = < n 2 n (+ (fib (- n 1)) (fib (- n 2)));", 500},
		{"main = y fac 6; y f = f (y f); fac r n = ? n 0 1 (* n (r (- n 1)));", 300},
		{"main = tw tw tw inc 0; tw f x = f (f x); inc x = + x 1;", 300},
		{"main = l 60; l n = ? n 0 (k 7) l (- n 1); k x y = x;", 300},
		{"main = len (upto 0 9); len l = l lc 0; lc h t = + 1 (len t); upto a b = < a b (cons a (upto (+ a 1) b)) nil; cons h t c n = c h t; nil c n = n;", 300},
		{"main = at 9 ones; ones = c 1 ones; at n l = ? n 0 hd (at (- n 1)) (l s); hd l = l k; c h t f = f h t; k x y = x; s x y = y;", 300},
		{"main = gcd 84 36; gcd a b = ? a b a (< a b (gcd b a) (gcd (- a b) b));", 300},
		{"main = w 1; w x = w (+ x 1);", 100},
	} {
		b := sameHeaps(t, codeRead(t, compiled(t, x.src)), x.budget)
		if b.result.Outcome != api.Number && x.budget != 100 {
			t.Errorf("%q comes to %+v", x.src, b.result)
		}
	}
}
