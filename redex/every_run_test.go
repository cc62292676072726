package redex_test

import (
	"strings"
	"testing"

	"redex/api"
	"redex/redex"
)

// thunk: an application that is worked out when it is asked for, and then replaced by its value.
type thunk struct {
	parts []part
	done  bool
}

// part: an atom without Arg and Node, or a thunk.
type part struct {
	atom  api.Atom
	thunk *thunk
}

// reducer: another way to what a run comes to: applications that call each other, without a stack.
type reducer struct {
	c      api.Code
	budget int
	result api.Result
	ledger ledger
}

// ended is thrown when there is an outcome.
type ended struct{}

func (r *reducer) end(outcome int) {
	r.result.Outcome = outcome
	panic(ended{})
}

func (r *reducer) step() {
	if r.result.Steps == r.budget {
		r.end(api.Spent)
	}
	r.result.Steps++
}

// value: the parts of an application that is worked out till its head has too few arguments.
func (r *reducer) value(parts []part) []part {
	for {
		head, rest := parts[0], parts[1:]
		switch {
		case head.thunk != nil:
			if !head.thunk.done {
				r.ledger.keep(parts)
				*head.thunk = thunk{r.value(head.thunk.parts), true}
				r.ledger.drop()
			}
			parts = append(append([]part{}, head.thunk.parts...), rest...)
		case head.atom.Kind == api.Num:
			if len(rest) > 0 {
				r.end(api.Wrong)
			}
			return parts
		case head.atom.Kind == api.Fun:
			f := r.c.Funs[head.atom.N]
			if len(rest) < f.Arity {
				return parts
			}
			r.ledger.need(r.result.Steps, parts, len(f.Lines)-1)
			r.step()
			parts = append(body(f, rest), rest[f.Arity:]...)
		default:
			p := head.atom.N
			if len(rest) < []int{2, 2, 2, 4, 4}[p] {
				return parts
			}
			r.ledger.keep(rest[1:])
			a := r.number(rest[0])
			r.ledger.drop()
			r.ledger.keep(rest[2:])
			b := r.number(rest[1])
			r.ledger.drop()
			r.step()
			parts = r.apply(p, a, b, rest[2:])
		}
	}
}

func (r *reducer) number(x part) int {
	v := r.value([]part{x})
	if v[0].atom.Kind != api.Num {
		r.end(api.Wrong)
	}
	return v[0].atom.N
}

func (r *reducer) apply(p, a, b int, rest []part) []part {
	n := []int{a + b, a - b, a * b, 0, 0}[p]
	if n > 1000000000 || n < -1000000000 {
		r.end(api.Over)
	}
	if p < api.Less {
		return append([]part{{atom: num(n)}}, rest...)
	}
	if p == api.Less && a < b || p == api.Equal && a == b {
		return append([]part{rest[0]}, rest[2:]...)
	}
	return rest[1:]
}

// body: the spine of a function with these arguments, its inner applications being new thunks.
func body(f api.Template, arguments []part) []part {
	thunks := make([]thunk, len(f.Lines)-1)
	var lines [][]part
	for _, line := range f.Lines {
		var parts []part
		for _, a := range line {
			switch a.Kind {
			case api.Arg:
				parts = append(parts, arguments[a.N])
			case api.Node:
				parts = append(parts, part{thunk: &thunks[a.N]})
			default:
				parts = append(parts, part{atom: a})
			}
		}
		lines = append(lines, parts)
	}
	for i := range thunks {
		thunks[i].parts = lines[i+1]
	}
	return lines[0]
}

// reduce: what a run of good code comes to.
func reduce(c api.Code, budget int) api.Result {
	r := reducer{c: c, budget: budget}
	return r.run()
}

func (r *reducer) run() (result api.Result) {
	defer func() {
		if _, ok := recover().(ended); ok {
			result = r.result
		}
	}()
	v := r.value([]part{{atom: fun(r.c.Main)}})
	if v[0].atom.Kind == api.Num {
		return api.Result{Outcome: api.Number, Value: v[0].atom.N, Steps: r.result.Steps}
	}
	return api.Result{Outcome: api.Function, Steps: r.result.Steps}
}

// shaper throws code whose functions are mostly given what they want, so that its runs go on for a while.
type shaper struct {
	d       *dice
	kinds   []string // of the parameters of each function: n a number, g a function of one number
	own     int      // the function whose template is made
	lines   [][]api.Atom
	numbers []int // the inner applications of the template that come to numbers
}

// simple: an atom of the wanted kind, n or g.
func (s *shaper) simple(kind byte) api.Atom {
	var fit []api.Atom
	for i := range s.kinds[s.own] {
		if s.kinds[s.own][i] == kind {
			fit = append(fit, arg(i), arg(i))
		}
	}
	if kind == 'n' {
		fit = append(fit, num(s.d.roll(4)), num([]int{0, 1, 10, 1000, 31622, 999999}[s.d.roll(6)]))
	}
	for i, kinds := range s.kinds {
		if kind == 'g' && kinds == "n" {
			fit = append(fit, fun(i))
		}
	}
	if len(fit) == 0 || s.d.roll(60) == 0 {
		return []api.Atom{num(1), fun(s.d.roll(len(s.kinds))), prim(s.d.roll(5))}[s.d.roll(3)]
	}
	return fit[s.d.roll(len(fit))]
}

// atom: an atom for the line of this number.
func (s *shaper) atom(line int, kind byte, depth int) api.Atom {
	for _, inner := range s.numbers {
		// One that is there already is shared.
		if kind == 'n' && inner >= line && s.d.roll(4) == 0 {
			return node(inner)
		}
	}
	if depth == 0 || len(s.lines) > api.MaxNodes || s.d.roll(3) == 0 {
		return s.simple(kind)
	}
	at := len(s.lines)
	s.lines = append(s.lines, nil)
	s.fill(at, kind, depth-1)
	if kind == 'n' {
		s.numbers = append(s.numbers, at-1)
	}
	return node(at - 1)
}

// head: an atom that may begin a line, and the kinds of its arguments.
func (s *shaper) head() (api.Atom, string) {
	for i, kind := range s.kinds[s.own] {
		if kind == 'g' && s.d.roll(4) == 0 {
			return arg(i), "n"
		}
	}
	f := s.d.roll(len(s.kinds))
	// A function that calls those further up alone comes to an end.
	if s.d.roll(2) == 0 || f >= s.own && s.d.roll(15) != 0 {
		p := s.d.roll(5)
		return prim(p), []string{"nn", "nn", "nn", "nnnn", "nnnn"}[p]
	}
	return fun(f), s.kinds[f]
}

// fill lays a line that comes to the wanted kind.
func (s *shaper) fill(at int, kind byte, depth int) {
	first, wants := s.head()
	for at > 0 && len(wants) == 0 || kind == 'g' && !strings.HasSuffix(wants, "n") {
		first, wants = s.head()
	}
	if kind == 'g' {
		// One argument is left out. A line has one at least, so that some heads get all the same.
		wants = wants[:max(len(wants)-1, min(at, 1))]
	}
	line := atoms(first)
	for i := range wants {
		line = append(line, s.atom(at, wants[i], depth))
	}
	for len(line) < api.MaxWidth && s.d.roll(60) == 0 {
		line = append(line, s.simple('n'))
	}
	s.lines[at] = line
}

// throwLively: code whose runs are mostly of some length.
func throwLively(d *dice) api.Code {
	s := shaper{d: d}
	for range 2 + d.roll(4) {
		s.kinds = append(s.kinds, []string{"n", "n", "nn", "gn", "nnn", "gnn", "ggn", "gnnnnn", ""}[d.roll(9)])
	}
	c := api.Code{Main: max(d.roll(len(s.kinds)), d.roll(len(s.kinds)))}
	s.kinds[c.Main] = ""
	for i := range s.kinds {
		s.own, s.lines, s.numbers = i, [][]api.Atom{nil}, nil
		s.fill(0, 'n', 3)
		c.Funs = append(c.Funs, api.Template{Arity: len(s.kinds[i]), Lines: s.lines})
	}
	return c
}

// sameRuns: Run comes to what the reducer does. It answers what that is.
func sameRuns(t *testing.T, c api.Code, budget int) api.Result {
	t.Helper()
	text := textOf(c)
	want := reduce(c, budget)
	for _, heap := range []int{12 * budget, api.MaxHeap} {
		r, e := redex.Run(text, budget, heap)
		if r != want || e != api.OK {
			t.Fatalf("P8, P9: Run(%q, %d, %d) = %+v, %d, want %+v", text, budget, heap, r, e, want)
		}
	}
	return want
}

// The machine comes to what another way of working things out comes to.
func TestP8EveryCode(t *testing.T) {
	d := dice{10}
	var outcomes [api.Full + 1]int
	long := 0
	for i := range 8000 {
		c := throwLively(&d)
		if i%4 == 0 {
			c = throwCode(&d)
		}
		want := sameRuns(t, c, 100)
		outcomes[want.Outcome]++
		if want.Outcome != api.Spent && want.Steps > 10 {
			long++
		}
		sameRuns(t, c, d.roll(want.Steps+2))
		if i%500 == 0 {
			sameRuns(t, c, api.MaxBudget)
		}
	}
	for outcome := api.Number; outcome <= api.Spent; outcome++ {
		if outcomes[outcome] < 300 {
			t.Errorf("%d runs came to %d", outcomes[outcome], outcome)
		}
	}
	if long < 1000 {
		t.Errorf("%d runs were of some length", long)
	}
}

// Runs that lay many frames, or many items, on top of each other.
func TestP8Deep(t *testing.T) {
	for _, x := range []evaluation{
		{"main = sum 300; sum n = ? n 0 0 (+ n (sum (- n 1)));", number(45150, 1203)},
		{"main = sum 300; sum n = ? n 0 0 (+ (sum (- n 1)) n);", number(45150, 1203)},
		{"main = f 400 5; f n g = ? n 0 g (f (- n 1) (i g)); i x = x;", number(5, 1603)},
		// Each node begins with a pointer to another, so that all are entered ahead of the first step.
		{"main = f 400 s; f n g = ? n 0 g (f (- n 1) (g 1)); s x = s;", function(1603)},
		{"main = f 400 s; f n g = ? n 0 g (f (- n 1) (g 1 2 3 4 5 6 7)); s a b c d e f = s;", function(1203 + 2800/6)},
		{"main = f 400 1; f n g = ? n 0 g (f (- n 1) (g 1 2 3 4 5 6 7));", wrong(1203)},
		// The stack grows by an item with each step.
		{"main = f 1; f n = f n n;", spent(2000)},
	} {
		evalsTo(t, x.src, api.MaxBudget, x.want)
		for _, budget := range []int{1, 100, 1000, x.want.Steps - 1} {
			evalsTo(t, x.src, budget, wantWith(x.want, budget))
		}
	}
	wide := "f0 x0 x1 x2 x3 x4 x5 x6|"
	inner := strings.Repeat("f0 f0 f0 f0 f0 f0 f0 f0|", 12)
	for _, text := range []string{"M 0 1|F 0 12|" + wide + inner, "M 0 2|F 0 0|f1 f1 f1 f1 f1 f1 f1|F 6 12|a0 a1 a2 a3 a4 a5 x11 f0|" + inner} {
		runsTo(t, barred(text), api.MaxBudget, reduce(codeRead(t, barred(text)), api.MaxBudget))
	}
}

func codeRead(t *testing.T, text string) api.Code {
	t.Helper()
	c, _, e := redex.Read(text)
	if e != api.OK {
		t.Fatalf("Read(%q) = %d", text, e)
	}
	return c
}

// numbers: budgets and heaps that may be, and such as may not.
var numbers = []int{least, -1 << 32, -2001, -1, 0, 1, 2, 5, 20, 100, 1999, 2000, 2001, 23999, 24000, 24001, 1 << 32, greatest}

// runHolds: what holds for Run at every text and all numbers.
func runHolds(t *testing.T, text string, budget, heap int) {
	t.Helper()
	r, e := redex.Run(text, budget, heap)
	c, _, want := redex.Read(text)
	if want == api.OK && (budget < 0 || budget > 2000 || heap < 0 || heap > 24000) {
		want = api.ErrArg
	}
	if e != want || e != api.OK && r != (api.Result{}) {
		t.Fatalf("P8: Run(%.300q, %d, %d) = %+v, %d, want %d", text, budget, heap, r, e, want)
	}
	if e != api.OK {
		return
	}
	if r.Outcome < api.Number || r.Outcome > api.Full || r.Outcome != api.Number && r.Value != 0 || r.Steps < 0 || r.Steps > budget {
		t.Fatalf("P9: Run(%q, %d, %d) = %+v", text, budget, heap, r)
	}
	wanted := r
	if budget <= 100 {
		wanted = account(c, budget).in(heap)
	} else if heap >= 12*budget {
		wanted = reduce(c, budget)
	}
	if r != wanted {
		t.Fatalf("P8, P10: Run(%q, %d, %d) = %+v, want %+v", text, budget, heap, r, wanted)
	}
}

func TestP1EveryRun(t *testing.T) {
	d := dice{11}
	for i := range 6000 {
		c := throwLively(&d)
		if i%3 == 0 {
			c = throwCode(&d)
		}
		text := textOf(c)
		for _, changed := range []string{text, changeCode(&d, text), changeLines(&d, text), text[:d.roll(len(text))]} {
			runHolds(t, changed, numbers[d.roll(len(numbers))], numbers[d.roll(len(numbers))])
			runHolds(t, changed, d.roll(100), 24000)
			runHolds(t, changed, d.roll(100), d.roll(30))
		}
	}
	for _, x := range goodCode {
		for _, budget := range numbers {
			for _, heap := range numbers {
				runHolds(t, barred(x.text), budget, heap)
				runHolds(t, x.text, budget, heap)
			}
		}
	}
	for _, piece := range codePieces {
		for _, n := range []int{1, 2, 10, 1000, 30000, 30001} {
			runHolds(t, strings.Repeat(piece, n), numbers[d.roll(len(numbers))], numbers[d.roll(len(numbers))])
		}
	}
}

// evalHolds: what holds for Eval at every text and every number.
func evalHolds(t *testing.T, src string, budget int) {
	t.Helper()
	r, e := redex.Eval(src, budget)
	_, want := redex.Check(src)
	if want == api.OK && (budget < 0 || budget > 2000) {
		want = api.ErrArg
	}
	if e != want || e != api.OK && r != (api.Result{}) {
		t.Fatalf("P11: Eval(%.80q, %d) = %+v, %d, want %d", src, budget, r, e, want)
	}
	if e != api.OK {
		return
	}
	text, _ := redex.Compile(src)
	again, e := redex.Run(text, budget, api.MaxHeap)
	if again != r || e != api.OK {
		t.Fatalf("P11: Eval(%q, %d) = %+v, Run %+v, %d", src, budget, r, again, e)
	}
	if budget > 100 {
		return
	}
	if wanted := reduce(codeRead(t, text), budget); wanted != r {
		t.Fatalf("P8: Eval(%q, %d) = %+v, want %+v", src, budget, r, wanted)
	}
}

func TestP1EveryEval(t *testing.T) {
	d := dice{12}
	for range 3000 {
		for _, src := range []string{throw(&d), change(&d), throwProgram(&d)} {
			evalHolds(t, src, numbers[d.roll(len(numbers))])
			evalHolds(t, src, d.roll(50))
		}
	}
	for b := range 256 {
		evalHolds(t, string([]byte{byte(b)}), 5)
		evalHolds(t, "main = + "+string([]byte{byte(b)})+" 2;", 5)
	}
	for _, budget := range numbers {
		evalHolds(t, "main = + 2 3;", budget)
		evalHolds(t, "main = + 2 x;", budget)
		evalHolds(t, strings.Repeat(" ", 100000), budget)
	}
}

// Answers hang on the arguments alone: not on what was run before, nor on where the bytes lie.
func TestP2SameRuns(t *testing.T) {
	type question struct {
		text, src    string
		budget, heap int
	}
	type answer struct {
		ran, evaluated api.Result
		e, f           api.Errno
	}
	ask := func(q question) answer {
		var a answer
		a.ran, a.e = redex.Run(q.text, q.budget, q.heap)
		a.evaluated, a.f = redex.Eval(q.src, q.budget)
		return a
	}
	var asked []question
	var first []answer
	d := dice{13}
	for i := range 1000 {
		q := question{textOf(throwLively(&d)), throwProgram(&d), d.roll(200), []int{0, 3, 20, 24000, -1}[d.roll(5)]}
		if i%5 == 0 {
			q.text, q.src = changeCode(&d, q.text), throw(&d)
		}
		asked = append(asked, q)
		first = append(first, ask(q))
	}
	for i := len(asked) - 1; i >= 0; i-- {
		q := asked[i]
		q.text, q.src = string([]byte(q.text)), string([]byte(q.src))
		if a := ask(q); a != first[i] {
			t.Errorf("P2: %+v: %+v, then %+v", q, first[i], a)
		}
	}
}
