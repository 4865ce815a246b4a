package legal_test

import (
	"fmt"
	"math"
	"math/rand"
	"reflect"
	"slices"
	"strings"
	"testing"

	"leadline/api"
	"leadline/legal"
	"leadline/prog"
)

func must(t *testing.T, s string) api.Prog {
	t.Helper()
	p, e, at := prog.Parse(s)
	if e != api.OK {
		t.Fatalf("Parse(%q): %d, %d", s, int(e), at)
	}
	return p
}

// expect holds what Check tells of a program, by hand and against the model.
func expect(t *testing.T, p api.Prog, want api.Errno, place int) {
	t.Helper()
	if e, at := legal.Check(p); e != want || at != place {
		t.Errorf("Check(%s) = %d, %d, want %d, %d", shown(p), int(e), at, int(want), place)
	}
	if e, at := modelCheck(p); e != want || at != place {
		t.Errorf("the model tells %d, %d of %s, want %d, %d", int(e), at, shown(p), int(want), place)
	}
}

func shown(p api.Prog) string {
	if prog.Right(p) {
		return prog.Show(p)
	}
	return told(p)
}

func expectRight(t *testing.T, s string) {
	t.Helper()
	expect(t, must(t, s), api.OK, 0)
}

func expectBig(t *testing.T, s string) {
	t.Helper()
	expect(t, must(t, s), api.ErrBig, 0)
}

// expectAt holds an error at the byte ahead of which the text has a ^, that is none of it.
func expectAt(t *testing.T, s string, want api.Errno) {
	t.Helper()
	if strings.Count(s, "^") != 1 {
		t.Fatalf("%q has not one ^", s)
	}
	expect(t, must(t, strings.Replace(s, "^", "", 1)), want, strings.Index(s, "^"))
}

// hold holds what Check tells of a program against the model.
func hold(t *testing.T, p api.Prog) api.Errno {
	t.Helper()
	e, at := legal.Check(p)
	if want, place := modelCheck(p); e != want || at != place {
		t.Fatalf("Check(%s) = %d, %d, want %d, %d", told(p), int(e), at, int(want), place)
	}
	return e
}

const whole = `line a = 1, b;
line c;
vol v, w = 2;
lock m, n;
thread t {
  reg r, s;
  load r = a;
  load r = v;
  if r == s {
    store b = -r;
    opt b;
  } else {
    loop 3 {
      cas s = c, r + 1, s;
      break;
    }
  }
  take m;
  give m;
}
thread u {
  reg r, t, u;
  t = u;
  flush a;
  store w = r * t;
}
thread x {
}
recover {
  reg r;
  load r = b;
  check r < 5;
  take n;
}
always a == b;
always (c < 2) && !a;
`

// P6.1: programs that are checked

func TestCheckRight(t *testing.T) {
	expectRight(t, whole)
	for _, s := range []string{
		"thread t { }",
		"thread t { reg r; r = 1; check r; }",
		"line a; thread t { store a = 1; }",
		"line a; thread t { store a = 1; } always a == 0;",
		"line a; thread t { flush a; opt a; } thread u { flush a; }",
		"vol x; thread t { store x = 1; }",
		"vol x; thread t { reg r; load r = x; cas r = x, 0, 1; }",
		"lock m; thread t { take m; } thread u { give m; }",
		"line a; thread t { } recover { reg r; load r = a; store a = r; flush a; }",
		"thread t { reg r; } thread u { reg r; } recover { reg r; }",
		"thread t { reg r; if r { r = 1; } else { r = 2; } }",
		"thread t { reg r; loop 2 { r = r + 1; } }",
		"line a; thread t { } always a; always a; always 1;",
	} {
		expectRight(t, s)
	}
}

// P6.1: what has not the form

func TestCheckForm(t *testing.T) {
	cell, thread := api.Cell{Name: "a", At: 5}, api.Thread{Name: "t", At: 7}
	for _, p := range []api.Prog{
		{Claims: []api.Claim{{At: 5}}},
		{Threads: []api.Thread{thread}, Claims: []api.Claim{{At: 5}}},
		{Threads: []api.Thread{thread}, Lines: [][]api.Cell{{}}},
		{Threads: []api.Thread{thread}, Lines: [][]api.Cell{{{At: 5}}}},
		{Threads: []api.Thread{thread}, Vols: []api.Cell{{Name: "a", N: -1}}},
		{Threads: []api.Thread{thread}, Locks: []api.Cell{{Name: "a", N: 1}}},
		{Threads: []api.Thread{thread, {At: 9}}},
		{Threads: []api.Thread{thread}, Recover: []api.Thread{{}, {}}},
		{Threads: []api.Thread{thread}, Recover: []api.Thread{thread}},
		{Threads: []api.Thread{{Name: "t", Regs: []string{""}}}},
		{Threads: []api.Thread{{Name: "t", Body: []api.Stmt{{At: 3}}}}},
		{Threads: []api.Thread{{Name: "t", Body: []api.Stmt{{Kind: api.Loop, N: 9, At: 3}}}}},
		{Threads: []api.Thread{{Name: "t", Body: []api.Stmt{{Kind: api.Loop, N: 1, Body: 1, At: 3}}}}},
		{Threads: []api.Thread{{Name: "t", Body: []api.Stmt{{Kind: api.Loop, N: 1, Body: math.MaxInt, At: 3}}}}},
		{Threads: []api.Thread{{Name: "t", Body: slices.Repeat([]api.Stmt{{Kind: api.Mfence}}, 41)}}},
		{Threads: []api.Thread{{Name: "t", At: 4001}}},
		// It is told ahead of all else.
		{Claims: []api.Claim{{}}, Lines: slices.Repeat([][]api.Cell{{cell}}, 5)},
		{Lines: [][]api.Cell{{cell, cell}}, Threads: []api.Thread{{Name: "t", Regs: []string{"a", "a", "A"}}}},
	} {
		expect(t, p, api.ErrForm, 0)
	}
	p := must(t, whole)
	for i, text := range texts(&p) {
		was := text.String()
		text.SetString("take")
		if e, at := legal.Check(p); e != api.ErrForm || at != 0 {
			t.Errorf("name %d: %d, %d", i, int(e), at)
		}
		text.SetString(was)
	}
}

// P6.1: what is too much

func list(word string, n int, more string) string {
	if n == 0 {
		return ""
	}
	var l []string
	for i := range n {
		l = append(l, fmt.Sprint(word, i))
	}
	return more + strings.Join(l, ", ") + "; "
}

func TestCheckBig(t *testing.T) {
	const thread = "thread t { } "
	for _, x := range []struct {
		most int
		made func(n int) string
	}{
		{4, func(n int) string {
			s := ""
			for i := range n {
				s += fmt.Sprintf("line a%d; ", i)
			}
			return s + thread
		}},
		{4, func(n int) string { return list("a", n, "line ") + thread }},
		{4, func(n int) string { return "line b; line c, d; " + list("a", n, "line ") + "line e; " + thread }},
		{4, func(n int) string { return list("a", n, "vol ") + thread }},
		{4, func(n int) string { return "line b, c, d, e; " + list("a", n, "vol ") + thread }},
		{2, func(n int) string { return list("a", n, "lock ") + thread }},
		{4, func(n int) string { return "thread t { " + list("a", n, "reg ") + "}" }},
		{4, func(n int) string { return thread + "thread u { reg r; } thread v { " + list("a", n, "reg ") + "}" }},
		{4, func(n int) string { return thread + "recover { " + list("a", n, "reg ") + "}" }},
		{4, func(n int) string { return "line a; " + thread + strings.Repeat("always a; ", n) }},
	} {
		for n := range 9 {
			if n <= x.most {
				expectRight(t, x.made(n))
			} else {
				expectBig(t, x.made(n))
			}
		}
	}
	// Together there may be more.
	expectRight(t, "line a, b, c, d; line e, f, g, h; line i, j, k, l; line m, n, o, p; vol q, r, s, t; lock u, v; thread w { reg x1, x2, x3, x4; } thread y { reg x1, x2, x3, x4; } thread z { reg x1, x2, x3, x4; } recover { reg x1, x2, x3, x4; } always a; always b; always c; always d;")
	expectBig(t, "line a, b, c, d, e; line f; thread t { }")
	expectBig(t, "line f; line a, b, c, d, e; thread t { }")
}

func TestCheckThreads(t *testing.T) {
	for _, rest := range []string{"", "recover { } ", "recover { } always 1; ", "always 1; "} {
		expectBig(t, rest)
		threads := ""
		for i, name := range []string{"t", "u", "v", "w", "x"} {
			threads += "thread " + name + " { reg r; r = 1; } "
			if i < 3 {
				expectRight(t, threads+rest)
			} else {
				expectBig(t, threads+rest)
			}
		}
	}
	expectBig(t, "line a; vol b; lock c;")
	expect(t, api.Prog{}, api.ErrBig, 0)
	expect(t, api.Prog{Threads: []api.Thread{}}, api.ErrBig, 0)
}

func TestCheckMuchMore(t *testing.T) {
	cells := slices.Repeat([]api.Cell{{Name: "a"}}, 20000)
	thread := api.Thread{Name: "t"}
	for _, p := range []api.Prog{
		{Lines: [][]api.Cell{cells}, Threads: []api.Thread{thread}},
		{Lines: slices.Repeat([][]api.Cell{{{Name: "a"}}}, 20000), Threads: []api.Thread{thread}},
		{Vols: cells, Threads: []api.Thread{thread}},
		{Locks: cells, Threads: []api.Thread{thread}},
		{Threads: slices.Repeat([]api.Thread{thread}, 10000)},
		{Threads: []api.Thread{{Name: "t", Regs: slices.Repeat([]string{"r"}, 20000)}}},
		{Threads: []api.Thread{thread}, Claims: slices.Repeat([]api.Claim{{E: []api.Node{{Op: api.Num}}}}, 10000)},
	} {
		if e, at := legal.Check(p); e != api.ErrBig || at != 0 {
			t.Errorf("%d, %d", int(e), at)
		}
	}
}

// P6.1: rounds of loops

func TestCheckRounds(t *testing.T) {
	// Of each tower of loops, with an if between, or none, and in a body or in an else.
	for _, between := range []string{"", "if 1 { ", "if 1 { } else { ", "if 1 { mfence; loop 8 { } } else { sfence; "} {
		var grow func(text, ends string, rounds, deep int)
		grow = func(text, ends string, rounds, deep int) {
			expectRight(t, "thread t { "+text+ends+"}")
			expectRight(t, "thread t { } recover { "+text+ends+"}")
			for n := 1; n <= 8 && deep < 3; n++ {
				loop := fmt.Sprintf("%sloop %d { ", between, n)
				close := "} " + strings.Repeat("} ", strings.Count(between, "{")-strings.Count(between, "}"))
				if rounds*n <= 64 {
					grow(text+loop, ends+close, rounds*n, deep+1)
					continue
				}
				marked := text + between + "^" + strings.TrimPrefix(loop, between)
				expectAt(t, "thread t { "+marked+"loop 8 { } "+ends+close+"loop 8 { } }", api.ErrRange)
				expectAt(t, "thread t { loop 8 { loop 8 { } } } recover { "+marked+ends+close+"}", api.ErrRange)
			}
		}
		if strings.Contains(between, "loop") {
			// The if of such a tower has a loop of its own, that must be within 64 too.
			expectRight(t, "thread t { "+between+"loop 8 { loop 8 { } } } }")
			expectAt(t, "thread t { loop 8 { loop 2 { if 1 { mfence; ^loop 8 { } } else { sfence; loop 8 { } } } } }", api.ErrRange)
			expectAt(t, "thread t { loop 8 { loop 2 { if 1 { mfence; loop 4 { } } else { sfence; ^loop 8 { } } } } }", api.ErrRange)
			continue
		}
		grow("", "", 1, 0)
	}
}

func TestCheckRoundsByHand(t *testing.T) {
	expectRight(t, "thread t { loop 8 { loop 8 { } } loop 8 { loop 8 { } } }")
	expectRight(t, "thread t { loop 8 { loop 8 { } loop 8 { } } }")
	expectRight(t, "thread t { loop 8 { loop 8 { loop 1 { loop 1 { } } } } }")
	expectRight(t, "thread t { loop 4 { loop 4 { loop 4 { } } } }")
	expectRight(t, "thread t { loop 8 { loop 8 { break; } } }")
	expectAt(t, "thread t { loop 8 { loop 8 { ^loop 2 { } } } }", api.ErrRange)
	expectAt(t, "thread t { loop 8 { loop 8 { break; ^loop 2 { } } } }", api.ErrRange)
	expectAt(t, "thread t { loop 5 { loop 4 { ^loop 4 { } } } }", api.ErrRange)
	expectAt(t, "thread t { loop 8 { loop 8 { } loop 3 { ^loop 3 { } loop 2 { } } } }", api.ErrRange)
	expectAt(t, "thread t { loop 8 { if 1 { loop 8 { } } else { loop 8 { ^loop 2 { } } } } }", api.ErrRange)
	expectAt(t, "thread t { loop 8 { if 1 { loop 8 { ^loop 2 { } } } else { loop 8 { loop 2 { } } } } }", api.ErrRange)
	expectAt(t, "thread t { loop 8 { loop 8 { ^loop 8 { loop 8 { loop 8 { loop 8 { loop 8 { loop 8 { loop 8 { loop 8 { loop 8 { loop 8 { } } } } } } } } } } } } }", api.ErrRange)
	// Thread by thread, then Recover.
	expectAt(t, "thread t { loop 8 { loop 8 { } } } thread u { mfence; loop 8 { loop 8 { ^loop 2 { } } } } thread v { loop 8 { loop 8 { loop 2 { } } } }", api.ErrRange)
	expectAt(t, "thread t { loop 8 { loop 8 { } } } recover { loop 8 { loop 7 { } loop 8 { ^loop 8 { } } } loop 8 { loop 8 { loop 8 { } } } }", api.ErrRange)
}

// P6.1: names that are there twice

func TestCheckTwiceEachWithEach(t *testing.T) {
	for i, first := range []string{"line x; ", "vol x; ", "lock x; ", "thread x { } "} {
		for k, second := range []string{"line ^x; ", "vol ^x; ", "lock ^x; ", "thread ^x { } "} {
			if i > k {
				continue
			}
			rest := ""
			if k < 3 {
				rest = "thread t { }"
			}
			expectAt(t, first+second+rest, api.ErrTwice)
			if k != 2 {
				expectAt(t, first+second+strings.Replace(second, "^", "", 1)+rest, api.ErrTwice)
			}
		}
	}
	expectAt(t, "line x, ^x; thread t { }", api.ErrTwice)
	expectAt(t, "line a, x, b, ^x; thread t { }", api.ErrTwice)
	expectAt(t, "line a, x; line b; line c, ^x; thread t { }", api.ErrTwice)
	expectAt(t, "line a; vol x, ^x; thread t { }", api.ErrTwice)
	expectAt(t, "lock x, ^x; thread t { }", api.ErrTwice)
	expectAt(t, "thread x { } thread t { } thread ^x { }", api.ErrTwice)
	expectAt(t, "thread x { reg r; r = r; } thread ^x { reg r; r = r; } recover { }", api.ErrTwice)
}

func TestCheckTwiceFirst(t *testing.T) {
	// The first one that an earlier one has is told, whichever comes first itself.
	expectAt(t, "line a, b, ^b, a; thread t { }", api.ErrTwice)
	expectAt(t, "line a, b; line c, ^b; line a; thread t { }", api.ErrTwice)
	expectAt(t, "line a; vol b, ^a; lock b; thread t { }", api.ErrTwice)
	expectAt(t, "line a; vol b; lock ^b, a; thread t { }", api.ErrTwice)
	expectAt(t, "line a; vol ^a; lock b, b; thread a { } thread a { }", api.ErrTwice)
	// The order is that of cells, locks and threads; places do not make it.
	cell := func(name string, at int) []api.Cell { return []api.Cell{{Name: name, At: at}} }
	threads := []api.Thread{{Name: "t", At: 1}}
	expect(t, api.Prog{Lines: [][]api.Cell{cell("a", 9), cell("a", 8)}, Vols: cell("a", 7), Locks: cell("a", 6), Threads: threads}, api.ErrTwice, 8)
	expect(t, api.Prog{Lines: [][]api.Cell{cell("a", 9)}, Vols: cell("a", 7), Locks: cell("a", 6), Threads: threads}, api.ErrTwice, 7)
	expect(t, api.Prog{Vols: cell("a", 7), Locks: cell("a", 6), Threads: threads}, api.ErrTwice, 6)
	expect(t, api.Prog{Vols: cell("a", 7), Locks: cell("t", 6), Threads: threads}, api.ErrTwice, 1)
}

func TestCheckRegisters(t *testing.T) {
	for _, ahead := range []string{"line x; ", "line a, x; ", "line a; line b, x; ", "vol x; ", "vol y, x; ", "lock x; ", "lock y, x; "} {
		expectAt(t, ahead+"thread ^t { reg x; }", api.ErrTwice)
		expectAt(t, ahead+"thread ^t { reg q, r, x, s; }", api.ErrTwice)
		expectAt(t, ahead+"thread t { reg r; } thread ^u { reg x; } thread v { reg x; }", api.ErrTwice)
		expectAt(t, ahead+"thread t { reg r; } ^recover { reg r, x; }", api.ErrTwice)
		expectRight(t, ahead+"thread t { reg r; } recover { reg r, t; }")
	}
	expectAt(t, "thread ^t { reg r, r; }", api.ErrTwice)
	expectAt(t, "thread ^t { reg q, r, s, q; }", api.ErrTwice)
	expectAt(t, "thread t { reg r; } thread ^u { reg q, s, s; }", api.ErrTwice)
	expectAt(t, "thread t { reg r; } ^recover { reg q, q; }", api.ErrTwice)
	expectAt(t, "thread ^t { reg t, t; }", api.ErrTwice)
	// A thread's name, or another thread's register's, is none of those.
	expectRight(t, "thread t { reg t; t = t; }")
	expectRight(t, "thread t { reg u; u = u; } thread u { reg t; t = t; }")
	expectRight(t, "thread t { reg t, u; } thread u { reg u, t; } recover { reg t, u; t = u; }")
	expectRight(t, "thread t { reg r; r = 1; } thread u { reg r; r = 1; } recover { reg r; r = 1; }")
}

// P6.1: names that are not what they must be

// Each use, of a program with a name of each kind; the name that is used stands for %s.
var useTexts = []struct {
	text string
	good string
}{
	{"^%s = 1;", "r s"}, {"^load %s = a;", "r s"}, {"^cas %s = a, 0, 1;", "r s"},
	{"^load r = %s;", "a b c v w"}, {"^store %s = 1;", "a b c v w"}, {"^cas r = %s, 0, 1;", "a b c v w"},
	{"^flush %s;", "a b c"}, {"^opt %s;", "a b c"},
	{"^take %s;", "m n"}, {"^give %s;", "m n"},
	{"r = ^%s;", "r s"}, {"r = 1 + ^%s;", "r s"}, {"r = -(r * (2 - !^%s));", "r s"},
	{"store a = ^%s;", "r s"}, {"check ^%s;", "r s"}, {"if ^%s { }", "r s"}, {"if r < ^%s { } else { }", "r s"},
	{"cas r = a, ^%s, s;", "r s"}, {"cas r = a, s, ^%s;", "r s"}, {"cas r = v, 0, 1 - ^%s;", "r s"},
}

// Where a statement can stand, it stands for %s.
var around = []string{
	"thread t { reg r, s; %s } thread u { reg q; } recover { reg p; }",
	"thread t { reg q; } thread u { reg r, s; r = s; %s mfence; } recover { reg p; }",
	"thread t { reg q; } thread u { reg r; } recover { reg r, s; %s }",
	"thread t { reg r, s; loop 2 { sfence; %s break; } } thread u { reg q; } recover { }",
	"thread t { reg r, s; if r { %s } } thread u { reg q; } recover { }",
	"thread t { reg r, s; if r { } else { r = s; %s } } thread u { reg q; } recover { }",
	"thread t { } thread u { reg q; } recover { reg r, s; loop 2 { if 1 { if r { mfence; } else { loop 3 { %s } } } else { sfence; } } }",
}

const names13 = "a b c v w m n t u q p r s other"

func TestCheckUses(t *testing.T) {
	for _, frame := range around {
		for _, use := range useTexts {
			for _, name := range strings.Fields(names13) {
				s := "line a, b; line c; vol v, w; lock m, n; " + fmt.Sprintf(frame, fmt.Sprintf(use.text, name)) + " always a == c;"
				if slices.Contains(strings.Fields(use.good), name) {
					expectRight(t, strings.Replace(s, "^", "", 1))
				} else {
					expectAt(t, s, api.ErrName)
				}
			}
		}
	}
}

func TestCheckClaims(t *testing.T) {
	for _, claim := range []string{"always ^%s;", "always a == ^%s;", "always !(b + -^%s < 1);", "always a; always b; always ^%s; always c;"} {
		for _, name := range strings.Fields(names13) {
			s := "line a, b; line c; vol v, w; lock m, n; thread t { reg r, s; } thread u { reg q; } recover { reg p; } " + fmt.Sprintf(claim, name)
			if slices.Contains([]string{"a", "b", "c"}, name) {
				expectRight(t, strings.Replace(s, "^", "", 1))
			} else {
				expectAt(t, s, api.ErrName)
			}
		}
	}
	// A register that has a thread's name is none within a claim.
	expectAt(t, "thread t { reg t; t = 1; } always ^t;", api.ErrName)
	expectAt(t, "thread t { } recover { reg r; r = 1; } always ^r;", api.ErrName)
}

func TestCheckRegistersOfOthers(t *testing.T) {
	expectAt(t, "thread t { reg r; } thread u { ^r = 1; }", api.ErrName)
	expectAt(t, "thread t { ^r = 1; } thread u { reg r; }", api.ErrName)
	expectAt(t, "thread t { reg r; } recover { ^r = 1; }", api.ErrName)
	expectAt(t, "thread t { check ^r; } recover { reg r; }", api.ErrName)
	expectAt(t, "thread t { reg u; } thread u { check ^u; }", api.ErrName)
	expectAt(t, "thread t { check ^t; } thread u { reg t; }", api.ErrName)
}

// P6.1: several errors at once

// pieces of a program, each of which has an error, in the document's order.
func TestCheckOrder(t *testing.T) {
	const (
		big     = "always 1; always 1; always 1; always 1; always 1;"
		long    = "loop 8 { loop 8 { ^loop 2 { } } } "
		twice   = "line ^a; "
		regs    = "thread ^u { reg r, r; } "
		unknown = "thread v { ^store q = 1; } "
	)
	bare := strings.NewReplacer("^", "")
	for mask := range 32 {
		// Of those that are there the first one is told.
		s, marked := "line a; ", ""
		add := func(bit int, text string) {
			if mask&bit == 0 {
				return
			}
			s += text
		}
		for _, bit := range []int{1, 2, 4, 8, 16} {
			if mask&bit != 0 && marked == "" {
				marked = fmt.Sprint(bit)
			}
		}
		mark := func(bit int, text string) string {
			if marked == fmt.Sprint(bit) {
				return text
			}
			return bare.Replace(text)
		}
		add(4, mark(4, twice))
		add(8, mark(8, regs))
		add(16, mark(16, unknown))
		s += "thread w { "
		add(2, mark(2, long))
		s += "} "
		add(1, big)
		switch marked {
		case "":
			expectRight(t, s)
		case "1":
			expectBig(t, s)
		case "2":
			expectAt(t, s, api.ErrRange)
		case "4", "8":
			expectAt(t, s, api.ErrTwice)
		case "16":
			expectAt(t, s, api.ErrName)
		}
	}
}

func TestCheckFirstUse(t *testing.T) {
	// Of a statement first Reg, then Name, then the Vars of E, then those of F.
	for _, x := range []struct {
		text string
		want api.Errno
	}{
		{"^cas x = x, x, x;", api.ErrName}, {"^cas r = x, x, x;", api.ErrName}, {"cas r = a, ^x, x;", api.ErrName}, {"cas r = a, r, ^x;", api.ErrName},
		{"cas r = a, ^x + y, z;", api.ErrName}, {"cas r = a, r + ^y, z;", api.ErrName}, {"cas r = a, (r * r) - ^x, r;", api.ErrName},
		{"^x = y;", api.ErrName}, {"r = ^y; x = 1;", api.ErrName}, {"mfence; ^take a; give a; load x = y;", api.ErrName},
		{"if ^x { x = 1; } else { y = 1; }", api.ErrName}, {"if r { ^x = 1; } else { y = 1; }", api.ErrName}, {"if r { r = 1; } else { ^y = 1; } x = 2;", api.ErrName},
		{"loop 2 { loop 2 { r = r; } ^flush r; } flush q;", api.ErrName},
	} {
		expectAt(t, "line a; thread t { reg r; "+x.text+" }", x.want)
		expectAt(t, "line a; thread t { reg r; } recover { reg r; "+x.text+" } always q;", x.want)
		expectAt(t, "line a; thread t { reg r; } thread u { reg r; "+x.text+" } thread v { x = 1; } recover { x = 1; } always x;", x.want)
	}
	expectAt(t, "thread t { } always ^x; always y;", api.ErrName)
	expectAt(t, "line a; thread t { } always a; always a + ^y + x; always z;", api.ErrName)
	expectAt(t, "thread t { } recover { ^x = 1; } always y;", api.ErrName)
	// The order is that of what the program holds; places do not make it.
	at := func(name string, at int) []api.Node { return []api.Node{{Op: api.Var, Name: name, At: at}} }
	p := api.Prog{
		Threads: []api.Thread{{Name: "t", Regs: []string{"r"}, At: 4000, Body: []api.Stmt{{Kind: api.Cas, Reg: "r", Name: "a", E: at("r", 9), F: at("r", 3), At: 10}}}},
		Lines:   [][]api.Cell{{{Name: "a", At: 4000}}},
		Recover: []api.Thread{{Regs: []string{"r"}, Body: []api.Stmt{{Kind: api.Check, E: at("r", 2), At: 20}}}},
		Claims:  []api.Claim{{E: at("a", 1)}},
	}
	expect(t, p, api.OK, 0)
	p.Claims[0].E[0].Name = "x"
	expect(t, p, api.ErrName, 1)
	p.Recover[0].Body[0].E[0].Name = "x"
	expect(t, p, api.ErrName, 2)
	p.Threads[0].Body[0].F[0].Name = "x"
	expect(t, p, api.ErrName, 3)
	p.Threads[0].Body[0].E[0].Name = "x"
	expect(t, p, api.ErrName, 9)
	p.Threads[0].Body[0].Name = "x"
	expect(t, p, api.ErrName, 10)
	p.Threads[0].Regs = []string{"a"}
	expect(t, p, api.ErrTwice, 4000)
}

// Each name of a program with all that there can be becomes each other one, alone, and two at once.
func TestCheckEachName(t *testing.T) {
	p := must(t, whole)
	l := texts(&p)
	r := rand.New(rand.NewSource(6))
	got := map[api.Errno]int{}
	others := strings.Fields("a b c v w m n t u x r s q")
	for _, one := range l {
		was := one.String()
		for _, name := range others {
			one.SetString(name)
			got[hold(t, p)]++
			two := l[r.Intn(len(l))]
			wasTwo := two.String()
			two.SetString(others[r.Intn(len(others))])
			got[hold(t, p)]++
			two.SetString(wasTwo)
		}
		one.SetString(was)
	}
	if got[api.OK] < 50 || got[api.ErrTwice] < 50 || got[api.ErrName] < 50 {
		t.Errorf("%d", got)
	}
	expect(t, p, api.OK, 0)
}

func wildProgs(t *testing.T, seed int64, errors, n int, do func(p api.Prog)) {
	t.Helper()
	w := wild{rand.New(rand.NewSource(seed)), errors}
	for range n {
		if p, e, _ := prog.Parse(w.text()); e == api.OK {
			do(p)
		}
	}
}

func TestCheckWild(t *testing.T) {
	got := map[api.Errno]int{}
	for _, errors := range []int{0, 1, 3, 20} {
		wildProgs(t, int64(errors), errors, 1000, func(p api.Prog) { got[hold(t, p)]++ })
	}
	if got[api.OK] < 1000 || got[api.ErrTwice] < 300 || got[api.ErrName] < 300 || got[api.ErrRange] < 60 || got[api.ErrBig] < 10 {
		t.Errorf("the programs are not wild enough: %d", got)
	}
}

// P6.2: what a program has

// expectCells holds all that is asked of a program's cells and locks.
func expectCells(t *testing.T, p api.Prog, cells, locks string, stays int, lines, firsts []int) {
	t.Helper()
	if got := legal.Cells(p); !slices.Equal(got, strings.Fields(cells)) {
		t.Errorf("Cells(%s) = %v, want %s", told(p), got, cells)
	}
	if got := legal.Locks(p); !slices.Equal(got, strings.Fields(locks)) {
		t.Errorf("Locks(%s) = %v, want %s", told(p), got, locks)
	}
	if got := legal.Stays(p); got != stays {
		t.Errorf("Stays(%s) = %d, want %d", told(p), got, stays)
	}
	if got := legal.Firsts(p); !slices.Equal(got, firsts) {
		t.Errorf("Firsts(%s) = %v, want %v", told(p), got, firsts)
	}
	for i, want := range lines {
		if got := legal.Line(p, i); got != want {
			t.Errorf("Line(%s, %d) = %d, want %d", told(p), i, got, want)
		}
	}
	for _, none := range []int{-1, -2, math.MinInt, len(lines), len(lines) + 1, math.MaxInt} {
		if got := legal.Line(p, none); got != -1 {
			t.Errorf("Line(%s, %d) = %d, want -1", told(p), none, got)
		}
	}
}

func TestCells(t *testing.T) {
	for _, x := range []struct {
		text         string
		cells, locks string
		stays        int
		lines        []int
		firsts       []int
	}{
		{"", "", "", 0, nil, nil},
		{"thread t { reg r; } always 1;", "", "", 0, nil, nil},
		{"line a;", "a", "", 1, []int{0}, []int{0}},
		{"line a = 7;", "a", "", 1, []int{0}, []int{7}},
		{"vol a = 7;", "a", "", 0, []int{0}, []int{7}},
		{"lock a;", "", "a", 0, nil, nil},
		{"line a = 1, b = 2, c = 3;", "a b c", "", 3, []int{0, 0, 0}, []int{1, 2, 3}},
		{"line a; line b;", "a b", "", 2, []int{0, 1}, []int{0, 0}},
		{"vol a, b = 5, c;", "a b c", "", 0, []int{0, 1, 2}, []int{0, 5, 0}},
		{"line a; vol b;", "a b", "", 1, []int{0, 1}, []int{0, 0}},
		{"line a = 3, b; line c; vol x = 5, y; lock m, n; thread t { }", "a b c x y", "m n", 3, []int{0, 0, 1, 2, 3}, []int{3, 0, 0, 5, 0}},
		{"line d, c = 4294967296; line b; line a, z; vol y; vol x = 1; lock n; lock m;", "d c b a z y x", "n m", 5, []int{0, 0, 1, 2, 2, 3, 4}, []int{0, 1 << 32, 0, 0, 0, 0, 1}},
		{whole, "a b c v w", "m n", 3, []int{0, 0, 1, 2, 3}, []int{1, 0, 0, 0, 2}},
		// Of what is not checked it is told too.
		{"line a, a; vol a; lock a, a, a;", "a a a", "a a a", 2, []int{0, 0, 1}, []int{0, 0, 0}},
		{"line a; line b; line c; line d; line e, f; vol g;", "a b c d e f g", "", 6, []int{0, 1, 2, 3, 4, 4, 5}, []int{0, 0, 0, 0, 0, 0, 0}},
	} {
		expectCells(t, must(t, x.text), x.cells, x.locks, x.stays, x.lines, x.firsts)
	}
	full := must(t, "line a, b, c, d; line e, f, g, h; line i, j, k, l; line m, n, o, p; vol q, r, s, t; lock u, v; thread w { }")
	expectCells(t, full, "a b c d e f g h i j k l m n o p q r s t", "u v", 16, []int{0, 0, 0, 0, 1, 1, 1, 1, 2, 2, 2, 2, 3, 3, 3, 3, 4, 5, 6, 7}, make([]int, 20))
}

// Programs that have not the form have cells too.
func TestCellsWithoutForm(t *testing.T) {
	cell := func(name string, n int) api.Cell { return api.Cell{Name: name, N: n, At: 9} }
	p := api.Prog{Lines: [][]api.Cell{nil, {cell("A", -1)}, {}, {cell("b", 1<<40), cell("c", 2)}}, Vols: []api.Cell{cell("d", -3)}, Locks: []api.Cell{cell("E", 5)}}
	expectCells(t, p, "A b c d", "E", 3, []int{1, 3, 3, 4}, []int{-1, 1 << 40, 2, -3})
	expectCells(t, api.Prog{Lines: [][]api.Cell{nil, {}, nil}}, "", "", 0, nil, nil)
	if got := legal.Cells(api.Prog{Vols: []api.Cell{{}}}); !slices.Equal(got, []string{""}) {
		t.Errorf("%q", got)
	}
	if got := legal.Locks(api.Prog{Locks: []api.Cell{{}, {Name: "m"}}}); !slices.Equal(got, []string{"", "m"}) {
		t.Errorf("%q", got)
	}
}

func TestCellsWild(t *testing.T) {
	wildProgs(t, 7, 5, 1000, func(p api.Prog) {
		var firsts []int
		for _, cells := range append(slices.Clone(p.Lines), p.Vols) {
			for _, c := range cells {
				firsts = append(firsts, c.N)
			}
		}
		expectCells(t, p, strings.Join(append(staying(p), names(p.Vols)...), " "), strings.Join(names(p.Locks), " "), len(staying(p)), modelLines(p), firsts)
	})
}

func TestPlace(t *testing.T) {
	l := []string{"a", "b", "b", "", "c", "a"}
	for _, x := range []struct {
		l    []string
		s    string
		want int
	}{
		{l, "a", 0}, {l, "b", 1}, {l, "", 3}, {l, "c", 4}, {l, "d", -1}, {l, "A", -1}, {l, "ab", -1}, {l, "a ", -1},
		{l[1:], "a", 4}, {l[:3], "c", -1}, {nil, "", -1}, {nil, "a", -1}, {[]string{}, "", -1}, {[]string{""}, "", 0}, {[]string{"ab"}, "a", -1}, {[]string{"a"}, "ab", -1},
		{[]string{"a", "c", "b"}, "b", 2}, {[]string{"\xff"}, "\xff", 0}, {[]string{"\xff"}, "\ufffd", -1},
	} {
		if got := legal.Place(x.l, x.s); got != x.want {
			t.Errorf("Place(%q, %q) = %d, want %d", x.l, x.s, got, x.want)
		}
	}
}

// Names, lines and first numbers belong together.
func TestCellsTogether(t *testing.T) {
	p := must(t, whole)
	cells := legal.Cells(p)
	for i, lines := range append(slices.Clone(p.Lines), p.Vols[:1], p.Vols[1:]) {
		for _, c := range lines {
			k := legal.Place(cells, c.Name)
			if legal.Line(p, k) != i || legal.Firsts(p)[k] != c.N || (k < legal.Stays(p)) != (i < len(p.Lines)) {
				t.Errorf("%s is at %d, of line %d", c.Name, k, legal.Line(p, k))
			}
		}
	}
	if legal.Place(cells, "m") != -1 || legal.Line(p, legal.Place(cells, "m")) != -1 || legal.Place(legal.Locks(p), "n") != 1 {
		t.Error("a lock is a cell")
	}
}

// P6.3: of a program that is checked each use names just one thing

func holdOneThing(t *testing.T, p api.Prog) {
	t.Helper()
	for _, u := range allUses(p) {
		things := 0
		for _, l := range u.of {
			for _, name := range l {
				if name == u.name {
					things++
				}
			}
		}
		if things != 1 {
			t.Fatalf("%s at %d names %d things of %s", u.name, u.at, things, told(p))
		}
	}
	// A thread's names, its registers among them, are all of different things.
	for _, thread := range all(p) {
		l := slices.Concat(legal.Cells(p), legal.Locks(p), thread.Regs)
		for i, name := range l {
			if legal.Place(l, name) != i {
				t.Fatalf("%s is two things of %s", name, told(p))
			}
		}
	}
}

func TestOneThing(t *testing.T) {
	checked := 0
	held := func(p api.Prog) {
		if e, _ := legal.Check(p); e == api.OK {
			holdOneThing(t, p)
			checked++
		}
	}
	held(must(t, whole))
	held(must(t, "thread t { reg t, u; t = u; } thread u { reg u; u = u; }"))
	for _, errors := range []int{0, 2, 10} {
		wildProgs(t, 100+int64(errors), errors, 500, held)
	}
	if checked < 500 {
		t.Errorf("%d", checked)
	}
}

// R4: memory

func TestAnswersAreNew(t *testing.T) {
	p := must(t, whole)
	first, locks, numbers := legal.Cells(p), legal.Locks(p), legal.Firsts(p)
	for i := range first {
		first[i] = "x"
	}
	for i := range locks {
		locks[i] = "x"
	}
	for i := range numbers {
		numbers[i] = 99
	}
	_ = append(first, "y")
	_ = append(locks, "y")
	_ = append(numbers, 9)
	expectCells(t, p, "a b c v w", "m n", 3, []int{0, 0, 1, 2, 3}, []int{1, 0, 0, 0, 2})
	if told(p) != told(must(t, whole)) {
		t.Errorf("%s", told(p))
	}
}

func TestArgumentsStay(t *testing.T) {
	for _, s := range []string{whole, "line a; line a; thread t { }", "line a; thread t { reg a; }", "line a; vol v; thread t { store q = 1; }", "thread t { loop 8 { loop 8 { loop 8 { } } } }", ""} {
		p := roomy(must(t, s))
		was := wholly(p)
		e, at := legal.Check(p)
		legal.Cells(p)
		legal.Stays(p)
		legal.Locks(p)
		legal.Firsts(p)
		for i := -1; i < 8; i++ {
			legal.Line(p, i)
		}
		if wholly(p) != was {
			t.Errorf("%q: %s was %s", s, wholly(p), was)
		}
		if again, atAgain := legal.Check(p); again != e || atAgain != at {
			t.Errorf("%q: %d, %d, and then %d, %d", s, int(e), at, int(again), atAgain)
		}
	}
	l := []string{"a", "b", "c"}[:2]
	if legal.Place(l, "c") != -1 || !slices.Equal(l[:3], []string{"a", "b", "c"}) {
		t.Error(l[:3])
	}
}

// Nil lists and empty ones are the same.
func TestEmptyLists(t *testing.T) {
	empty := api.Prog{Lines: [][]api.Cell{}, Vols: []api.Cell{}, Locks: []api.Cell{}, Threads: []api.Thread{{Name: "t", Regs: []string{}, Body: []api.Stmt{}}}, Recover: []api.Thread{}, Claims: []api.Claim{}}
	expect(t, empty, api.OK, 0)
	expectCells(t, empty, "", "", 0, nil, nil)
	expect(t, api.Prog{Threads: []api.Thread{{Name: "t"}}}, api.OK, 0)
	if reflect.DeepEqual(roomy(empty), api.Prog{}) {
		t.Error("roomy")
	}
}
