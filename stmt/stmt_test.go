package stmt_test

import (
	"math"
	"math/rand"
	"reflect"
	"slices"
	"strconv"
	"strings"
	"testing"

	"leadline/api"
	"leadline/expr"
	"leadline/scan"
	"leadline/stmt"
)

func tokens(t *testing.T, s string) []api.Token {
	t.Helper()
	l, e, at := scan.Scan(s)
	if e != api.OK {
		t.Fatalf("Scan(%q): %d, %d", s, int(e), at)
	}
	return l
}

func num(n, at int) []api.Node { return []api.Node{{Op: api.Num, N: n, At: at}} }

func variable(s string, at int) []api.Node { return []api.Node{{Op: api.Var, Name: s, At: at}} }

// alike tells whether two are the same, places too; a nil list is as an empty one.
func alike(a, b []api.Stmt) bool {
	return slices.EqualFunc(a, b, func(x, y api.Stmt) bool {
		if !slices.Equal(x.E, y.E) || !slices.Equal(x.F, y.F) {
			return false
		}
		x.E, x.F, y.E, y.F = nil, nil, nil, nil
		return reflect.DeepEqual(x, y)
	})
}

func expectStmts(t *testing.T, l []api.Token, i, to int, want ...api.Stmt) {
	t.Helper()
	if got, behind, e, at := stmt.Parse(l, i); e != api.OK || at != 0 || behind != to || !alike(got, want) {
		t.Errorf("Parse(%q, %d) = %v, %d, %d, %d, want %v, %d", scan.Show(l), i, got, behind, int(e), at, want, to)
	}
}

// expectRead holds what is read of statements, in { and }, the first one of which begins at 2.
func expectRead(t *testing.T, s string, want ...api.Stmt) {
	t.Helper()
	l := tokens(t, "{ "+s+" }")
	expectStmts(t, l, 0, len(l), want...)
}

func expectError(t *testing.T, l []api.Token, i int, want api.Errno, place int) {
	t.Helper()
	if got, to, e, at := stmt.Parse(l, i); len(got) != 0 || to != 0 || e != want || at != place {
		t.Errorf("Parse(%q, %d) = %v, %d, %d, %d, want %d, %d", scan.Show(l), i, got, to, int(e), at, int(want), place)
	}
}

func expectWrong(t *testing.T, s string, want api.Errno, place int) {
	t.Helper()
	expectError(t, tokens(t, s), 0, want, place)
}

// expectShown holds what is shown of a block's statements against a text.
func expectShown(t *testing.T, s, want string) {
	t.Helper()
	l := tokens(t, s)
	got, to, e, at := stmt.Parse(l, 0)
	if e != api.OK || at != 0 || to != len(l) || stmt.Show(got) != want {
		t.Errorf("%q is read as %q, up to %d of %d, %d, %d, want %q", s, stmt.Show(got), to, len(l), int(e), at, want)
	}
}

func holdParse(t *testing.T, l []api.Token, i int) api.Errno {
	t.Helper()
	got, to, e, at := stmt.Parse(l, i)
	want, wantTo, wantE, wantAt := modelParse(l, i)
	if to != wantTo || e != wantE || at != wantAt || !alike(got, want) {
		t.Fatalf("Parse(%v, %d) = %v, %d, %d, %d, want %v, %d, %d, %d", l, i, got, to, int(e), at, want, wantTo, int(wantE), wantAt)
	}
	return e
}

// P4.1: what is read

func TestParseEachKind(t *testing.T) {
	expectRead(t, "")
	expectRead(t, "r = 1;", api.Stmt{Kind: api.Set, Reg: "r", E: num(1, 6), At: 2})
	expectRead(t, "load r = a;", api.Stmt{Kind: api.Load, Reg: "r", Name: "a", At: 2})
	expectRead(t, "store a = s;", api.Stmt{Kind: api.Store, Name: "a", E: variable("s", 12), At: 2})
	expectRead(t, "cas r = a, 0, 1;", api.Stmt{Kind: api.Cas, Reg: "r", Name: "a", E: num(0, 13), F: num(1, 16), At: 2})
	expectRead(t, "flush a;", api.Stmt{Kind: api.Flush, Name: "a", At: 2})
	expectRead(t, "opt a;", api.Stmt{Kind: api.Opt, Name: "a", At: 2})
	expectRead(t, "sfence;", api.Stmt{Kind: api.Sfence, At: 2})
	expectRead(t, "mfence;", api.Stmt{Kind: api.Mfence, At: 2})
	expectRead(t, "take m;", api.Stmt{Kind: api.Take, Name: "m", At: 2})
	expectRead(t, "give m;", api.Stmt{Kind: api.Give, Name: "m", At: 2})
	expectRead(t, "check r;", api.Stmt{Kind: api.Check, E: variable("r", 8), At: 2})
	expectRead(t, "if r { }", api.Stmt{Kind: api.If, E: variable("r", 5), At: 2})
	expectRead(t, "loop 3 { }", api.Stmt{Kind: api.Loop, N: 3, At: 2})
	expectRead(t, "loop 2 { break; }", api.Stmt{Kind: api.Loop, N: 2, Body: 1, At: 2}, api.Stmt{Kind: api.Break, At: 11})
}

func TestParseBlocks(t *testing.T) {
	is := func(then, other int) api.Stmt {
		return api.Stmt{Kind: api.If, E: variable("r", 5), Body: then, Else: other, At: 2}
	}
	fence := func(at int) api.Stmt { return api.Stmt{Kind: api.Mfence, At: at} }
	expectRead(t, "if r { mfence; }", is(1, 0), fence(9))
	expectRead(t, "if r { mfence; } else { mfence; mfence; }", is(1, 2), fence(9), fence(26), fence(34))
	expectRead(t, "if r { } else { mfence; }", is(0, 1), fence(18))
	// An else that has no statements is as none.
	expectRead(t, "if r { mfence; } else { }", is(1, 0), fence(9))
	expectRead(t, "if r { } else { }", is(0, 0))
	expectRead(t, "if r { } else { } mfence;", is(0, 0), fence(20))
	// Those of a body count with all that is in them, and what stands behind does not.
	expectRead(t, "if r { loop 2 { mfence; } mfence; } else { if s { } } mfence;", is(3, 1),
		api.Stmt{Kind: api.Loop, N: 2, Body: 1, At: 9}, fence(18), fence(28),
		api.Stmt{Kind: api.If, E: variable("s", 48), At: 45}, fence(56))
	l := tokens(t, "{ loop 2 { load r = a; break; } }")
	expectStmts(t, l, 0, len(l), api.Stmt{Kind: api.Loop, N: 2, Body: 2, At: 2}, api.Stmt{Kind: api.Load, Reg: "r", Name: "a", At: 11}, api.Stmt{Kind: api.Break, At: 23})
}

func TestParseFromAPlace(t *testing.T) {
	l := tokens(t, "thread t { loop 2 { mfence; } } ; {")
	fence := api.Stmt{Kind: api.Mfence, At: 20}
	expectStmts(t, l, 2, 10, api.Stmt{Kind: api.Loop, N: 2, Body: 1, At: 11}, fence)
	expectStmts(t, l, 5, 9, fence)
	expectError(t, l, 0, api.ErrToken, 0)
	expectError(t, l, 1, api.ErrToken, 7)
	expectError(t, l, 8, api.ErrToken, 28)
	expectError(t, l, 10, api.ErrToken, 32)
	for _, i := range []int{11, 12, 13, 1 << 40, math.MaxInt} {
		expectError(t, l, i, api.ErrEnd, 35)
	}
	// What stands behind the } is none of the block's, whatever it is.
	for _, behind := range strings.Fields("} else break ; 9 loop {") {
		l := tokens(t, "{ mfence; } "+behind)
		expectStmts(t, l, 0, 4, api.Stmt{Kind: api.Mfence, At: 2})
	}
	// A loop around the block is none of this block.
	l = tokens(t, "loop 2 { break; }")
	expectError(t, l, 2, api.ErrToken, 9)
}

func TestParseNames(t *testing.T) {
	for _, name := range []string{"a", "_", "_1", "loops", "i", "abcdefghijklmnop", "e", "f", "k", "b", "n"} {
		expectShown(t, "{"+name+" = "+name+"; load "+name+"="+name+"; give "+name+"; }", name+" = "+name+";\nload "+name+" = "+name+";\ngive "+name+";\n")
	}
	for _, kept := range strings.Fields(keptWords) {
		expectWrong(t, "{ load "+kept+" = a; }", api.ErrToken, 7)
		expectWrong(t, "{ load r = "+kept+"; }", api.ErrToken, 11)
		expectWrong(t, "{ store "+kept+" = 1; }", api.ErrToken, 8)
		expectWrong(t, "{ cas "+kept+" = a, 1, 1; }", api.ErrToken, 6)
		expectWrong(t, "{ cas r = "+kept+", 1, 1; }", api.ErrToken, 10)
		for _, word := range strings.Fields("flush opt take give check if loop") {
			expectWrong(t, "{ "+word+" "+kept+"; }", api.ErrToken, 3+len(word))
		}
		if !slices.Contains(strings.Fields("load store cas flush opt sfence mfence take give if loop check"), kept) {
			expectWrong(t, "{ "+kept+" = 1; }", api.ErrToken, 2)
			expectWrong(t, "{ "+kept, api.ErrToken, 2)
		} else {
			expectWrong(t, "{ "+kept+" = 1; }", api.ErrToken, 3+len(kept))
			expectWrong(t, "{ "+kept, api.ErrEnd, 2+len(kept))
		}
	}
	for n := 1; n <= 30; n++ {
		long := api.Token{Kind: api.Word, Text: strings.Repeat("x", n), At: 50}
		l := slices.Concat(tokens(t, "{ flush"), []api.Token{long}, tokens(t, "; }"))
		set := slices.Concat(tokens(t, "{"), []api.Token{long}, tokens(t, "= 1; }"))
		if n <= 16 {
			expectStmts(t, l, 0, 5, api.Stmt{Kind: api.Flush, Name: long.Text, At: 2})
			expectStmts(t, set, 0, 6, api.Stmt{Kind: api.Set, Reg: long.Text, E: num(1, 2), At: 50})
		} else {
			expectError(t, l, 0, api.ErrToken, 50)
			expectError(t, set, 0, api.ErrToken, 50)
		}
	}
}

func TestParseLoopNumber(t *testing.T) {
	for n := 0; n <= 20; n++ {
		text := strconv.Itoa(n)
		if n >= 1 && n <= 8 {
			expectRead(t, "loop "+text+" { }", api.Stmt{Kind: api.Loop, N: n, At: 2})
			expectRead(t, "loop 00"+text+" { }", api.Stmt{Kind: api.Loop, N: n, At: 2})
		} else {
			expectWrong(t, "{ loop "+text+" { } }", api.ErrRange, 7)
			expectWrong(t, "{ loop "+text, api.ErrRange, 7)
			expectWrong(t, "{ loop 2 { loop "+text+" ;", api.ErrRange, 16)
		}
	}
	expectWrong(t, "{ loop 4294967296 { } }", api.ErrRange, 7)
	for _, n := range []int{-1, -8, math.MinInt, math.MaxInt} {
		l := slices.Concat(tokens(t, "{ loop"), []api.Token{{Kind: api.Number, Text: "1", N: n, At: 44}}, tokens(t, "{ } }"))
		expectError(t, l, 0, api.ErrRange, 44)
	}
	for _, other := range strings.Fields("r ; { } ( - = loop") {
		expectWrong(t, "{ loop "+other+" { } }", api.ErrToken, 7)
	}
	expectWrong(t, "{ loop 1 + 1 { } }", api.ErrToken, 9)
	expectWrong(t, "{ loop", api.ErrEnd, 6)
}

func TestParseBreak(t *testing.T) {
	expectShown(t, "{ loop 1 { break; } }", "loop 1 {\n  break;\n}\n")
	expectShown(t, "{ loop 1 { if r { break; } else { break; } } }", "loop 1 {\n  if r {\n    break;\n  } else {\n    break;\n  }\n}\n")
	expectShown(t, "{ loop 1 { loop 2 { } break; } }", "loop 1 {\n  loop 2 {\n  }\n  break;\n}\n")
	expectShown(t, "{ if r { loop 1 { break; } } }", "if r {\n  loop 1 {\n    break;\n  }\n}\n")
	expectWrong(t, "{ break; }", api.ErrToken, 2)
	expectWrong(t, "{ break", api.ErrToken, 2)
	expectWrong(t, "{ break 9", api.ErrToken, 2)
	expectWrong(t, "{ if r { break; } }", api.ErrToken, 9)
	expectWrong(t, "{ if r { } else { break; } }", api.ErrToken, 18)
	expectWrong(t, "{ loop 1 { break; } break; }", api.ErrToken, 20)
	expectWrong(t, "{ if r { loop 1 { } break; } }", api.ErrToken, 20)
	expectWrong(t, "{ loop 1 { loop 1 { } } if r { break; } }", api.ErrToken, 31)
	expectWrong(t, "{ loop 1 { break }", api.ErrToken, 17)
	expectWrong(t, "{ loop 1 { break", api.ErrEnd, 16)
}

// P4.1: what is wrong

func TestParseBelowZero(t *testing.T) {
	for _, l := range [][]api.Token{nil, {}, tokens(t, "{ }"), tokens(t, "  x"), tokens(t, " { break")} {
		for _, i := range []int{-1, -2, -4000, math.MinInt} {
			expectError(t, l, i, api.ErrArg, 0)
		}
	}
}

const each = `{ r = 1 + s; load r = a; store a = (r); cas r = a, 0 - q, -1 * (2); flush a; opt b; sfence; mfence; take m; give m;
if r == 2 { check !r; } else { loop 3 { break; mfence; } } if r { } loop 8 { loop 1 { if b { } else { break; } } } }`

func TestParseEndsTooEarly(t *testing.T) {
	l := tokens(t, each)
	for n := range l {
		expectError(t, l[:n], 0, api.ErrEnd, scan.Place(l[:n], n))
	}
}

func TestParseOtherTokens(t *testing.T) {
	all := tokens(t, "{ } ; , = ( ) ! - + == && r 1 9 if else loop break load cas mfence reg thread")
	l := tokens(t, each)
	for i := range l {
		for _, other := range all {
			changed := slices.Clone(l)
			other.At = l[i].At
			changed[i] = other
			holdParse(t, changed, 0)
			holdParse(t, slices.Insert(slices.Clone(l), i, other), 0)
		}
		holdParse(t, slices.Delete(slices.Clone(l), i, i+1), 0)
	}
	expectWrong(t, "{ ; }", api.ErrToken, 2)
	expectWrong(t, "{ { } }", api.ErrToken, 2)
	expectWrong(t, "{ else { } }", api.ErrToken, 2)
	expectWrong(t, "{ if r { } else if s { } }", api.ErrToken, 16)
	expectWrong(t, "{ if r { } else { } else { } }", api.ErrToken, 20)
	expectWrong(t, "{ loop 1 { } else { } }", api.ErrToken, 13)
	expectWrong(t, "{ if r mfence; }", api.ErrToken, 7)
	expectWrong(t, "{ if r { }; }", api.ErrToken, 10)
	expectWrong(t, "{ r == 1; }", api.ErrToken, 4)
	expectWrong(t, "{ 1 = r; }", api.ErrToken, 2)
	expectWrong(t, "{ load r = 1; }", api.ErrToken, 11)
	expectWrong(t, "{ load r = a + 1; }", api.ErrToken, 13)
	expectWrong(t, "{ cas r = a, 1; }", api.ErrToken, 14)
	expectWrong(t, "{ cas r = a, 1, 2, 3; }", api.ErrToken, 17)
	expectWrong(t, "{ mfence }", api.ErrToken, 9)
	expectWrong(t, "x", api.ErrToken, 0)
	expectWrong(t, "", api.ErrEnd, 0)
	expectError(t, nil, 7, api.ErrEnd, 0)
}

// Where an expression must stand, its own errors, and their places, are told.
func TestParseExpressions(t *testing.T) {
	deep := strings.Repeat("(", 13)
	chain := strings.Repeat("r + ", 12) + "r"
	big := "((((r+r)+(r+r))+((r+r)+(r+r)))+(((r+r)+(r+r))+((r+r)+(r+r))))+((r+r)+(r+r)+r)"
	for _, ahead := range []string{"{ r = ", "{ store a = ", "{ cas r = a, ", "{ cas r = a, 1 == 1, ", "{ if ", "{ check ", "{ loop 1 { if r { } else { r = "} {
		at := len(ahead)
		expectWrong(t, ahead, api.ErrEnd, len(strings.TrimRight(ahead, " ")))
		expectWrong(t, ahead+"; }", api.ErrToken, at)
		expectWrong(t, ahead+"{ }", api.ErrToken, at)
		expectWrong(t, ahead+"loop; }", api.ErrToken, at)
		expectWrong(t, ahead+"r + ; }", api.ErrToken, at+4)
		expectWrong(t, ahead+"( r ; }", api.ErrToken, at+4)
		expectWrong(t, ahead+"r +", api.ErrEnd, at+3)
		expectWrong(t, ahead+deep, api.ErrDeep, at+12)
		expectWrong(t, ahead+chain+" ; break", api.ErrDeep, at)
		expectWrong(t, ahead+big+" ; break", api.ErrBig, at)
		expectWrong(t, ahead+"r < s < q;", api.ErrToken, at+6)
	}
}

// nested is a block with so many others in one another.
func nested(n int, ahead, inmost string) string {
	return strings.Repeat("{"+ahead, n) + "{" + inmost + strings.Repeat("}", n+1)
}

func TestParseDeep(t *testing.T) {
	for _, ahead := range []string{"loop 1", "if r", "if r{}else"} {
		for n := range 16 {
			l := tokens(t, nested(n, ahead, "mfence;"))
			got, to, e, at := stmt.Parse(l, 0)
			switch {
			case n > 12:
				place := strings.Index(nested(n, ahead, "@"), "@") - 1 - (n-13)*(1+len(ahead))
				if ahead == "if r{}else" {
					place -= len("{}else") // the empty body ahead of the else is as deep
				}
				expectError(t, l, 0, api.ErrDeep, place)
			case e != api.OK || at != 0 || to != len(l) || stmt.Depth(got) != n || !stmt.Right(got):
				t.Errorf("%q: %v, %d, %d, %d", nested(n, ahead, ""), got, to, int(e), at)
			}
		}
	}
	twelve := strings.Repeat("{ loop 1 ", 12)
	expectWrong(t, twelve+"{ loop 1 ", api.ErrEnd, 116)
	expectWrong(t, twelve+"{ loop 1 {", api.ErrDeep, 117)
	expectWrong(t, twelve+"{ loop 1 ;", api.ErrToken, 117)
	expectWrong(t, twelve+"{ loop 9 {", api.ErrRange, 115)
	expectWrong(t, twelve+"{ if r {", api.ErrDeep, 115)
	// What is closed is no more around what stands behind.
	expectWrong(t, twelve+"{ } loop 1 { } if r { } else { if r {", api.ErrDeep, 144)
	row := "{" + strings.Repeat("loop 1 { } if r { } else { } ", 15) + "}"
	if got, _, e, _ := stmt.Parse(tokens(t, row), 0); e != api.OK || len(got) != 30 || stmt.Depth(got) != 1 {
		t.Errorf("%q: %v, %d", row, got, int(e))
	}
	// The elses of an if are within what it is within.
	expectWrong(t, strings.Repeat("{ if r { } else ", 12)+"{ if r {", api.ErrDeep, 16*12+7)
}

func TestParseBig(t *testing.T) {
	for n := range 60 {
		for _, ahead := range []string{"", "loop 1 {", "if r {", "if r { } else {", "if r { mfence; } else { opt a; } loop 3 { loop 4 {"} {
			s := ahead + strings.Repeat("mfence;", n) + strings.Repeat("}", strings.Count(ahead, "{")-strings.Count(ahead, "}"))
			many := n + strings.Count(ahead, "if") + strings.Count(ahead, "loop") + strings.Count(ahead, ";")
			l := tokens(t, " x {"+s+"} break")
			if many > 40 {
				expectError(t, l, 1, api.ErrBig, 3)
				continue
			}
			if got, to, e, at := stmt.Parse(l, 1); len(got) != many || to != len(l)-1 || e != api.OK || at != 0 || !stmt.Right(got) {
				t.Errorf("%q: %d, %d, %d, %d", s, len(got), to, int(e), at)
			}
		}
	}
}

func TestParseFirstError(t *testing.T) {
	many := "{" + strings.Repeat("mfence;", 41)
	at := len(many)
	expectWrong(t, many, api.ErrEnd, at)
	expectWrong(t, many+"; }", api.ErrToken, at)
	expectWrong(t, many+"break; }", api.ErrToken, at)
	expectWrong(t, many+"loop 9 { } }", api.ErrRange, at+5)
	expectWrong(t, many+"r = "+strings.Repeat("(", 13), api.ErrDeep, at+16)
	expectWrong(t, many+strings.Repeat("loop 1 {", 13), api.ErrDeep, at+8*13-1)
	expectWrong(t, many+strings.Repeat("loop 1 {", 12)+strings.Repeat("}", 13), api.ErrBig, 0)
	expectWrong(t, "{ loop 9 ; break; }", api.ErrRange, 7)
	expectWrong(t, "{ break; loop 9 { }", api.ErrToken, 2)
	expectWrong(t, "{ r = (; loop 9 { }", api.ErrToken, 7)
	expectWrong(t, "{ load loop = loop;", api.ErrToken, 7)
	expectWrong(t, "} {", api.ErrToken, 0)
	expectError(t, tokens(t, many), -1, api.ErrArg, 0)
}

// A sign, and a word, stand where scan.Is tells them; a name is a Word, a number a Number.
func TestParseTokensOfNoText(t *testing.T) {
	l := tokens(t, each)
	for i := range l {
		for kind := -1; kind <= 5; kind++ {
			changed := slices.Clone(l)
			changed[i].Kind = kind
			holdParse(t, changed, 0)
		}
		for _, text := range []string{"", "A", "1", "a b", "}\n", "abcdefghijklmnopq"} {
			changed := slices.Clone(l)
			changed[i].Text = text
			holdParse(t, changed, 0)
		}
		for _, at := range []int{-7, 0, 4001, 1 << 40} {
			changed := slices.Clone(l)
			changed[i].At = at
			holdParse(t, changed, 0)
			holdParse(t, changed[:i+1], 0)
		}
	}
	fence := tokens(t, "mfence ;")
	signs := []api.Token{{Kind: api.Word, Text: "{", At: 3}, {Kind: api.Sign, Text: "mfence", At: 5, N: 6}, fence[1], {Kind: api.Word, Text: "}"}}
	expectStmts(t, signs, 0, 4, api.Stmt{Kind: api.Mfence, At: 5})
	expectError(t, []api.Token{{Kind: api.Sign, Text: "{"}, {Kind: api.Sign, Text: "r", At: 9}}, 0, api.ErrToken, 9)
	expectError(t, []api.Token{{Kind: api.Sign, Text: "{"}, {Kind: api.Sign, Text: "", At: 9}}, 0, api.ErrToken, 9)
	expectError(t, []api.Token{{Kind: api.Number, Text: "{", At: 9}}, 0, api.ErrToken, 9)
}

func TestParseLongLists(t *testing.T) {
	const many = 200000
	fence, open, shut := tokens(t, "mfence;"), tokens(t, "{"), tokens(t, "loop 2 { }")
	row := slices.Repeat(fence, many)
	expectError(t, slices.Concat(open, row), 0, api.ErrEnd, 7)
	expectError(t, slices.Concat(open, row, shut[3:]), 0, api.ErrBig, 0)
	expectError(t, slices.Concat(open, slices.Repeat(shut, many), shut[3:]), 0, api.ErrBig, 0)
	expectError(t, slices.Repeat(slices.Concat(open, shut[:2]), many), 0, api.ErrDeep, 0)
	expectError(t, slices.Concat(open, slices.Repeat(tokens(t, "if r { } else { r = 1 ; }"), many/10)), 0, api.ErrEnd, 25)
}

func TestParseShortLists(t *testing.T) {
	alphabet := tokens(t, "{ } ; = r 1 9 if else loop break mfence load flush")
	var grow func(l []api.Token, left int)
	grow = func(l []api.Token, left int) {
		for i := -1; i <= min(len(l), 1); i++ {
			holdParse(t, l, i)
		}
		if left == 0 {
			return
		}
		for _, token := range alphabet {
			token.At = 7*len(l) + 1
			grow(append(l, token), left-1)
		}
	}
	grow(nil, 3)
	grow(tokens(t, "{"), 4)
	grow(tokens(t, "{ loop 1 {"), 4)
	grow(tokens(t, "{ if r { } "), 4)
}

func wildNodes(r *rand.Rand) []api.Node {
	switch r.Intn(8) {
	case 0:
		return append([]api.Node{{Op: api.Neg + r.Intn(2)}}, wildNodes(r)...)
	case 1:
		return slices.Concat([]api.Node{{Op: api.Add + r.Intn(api.OpKinds-api.Add)}}, wildNodes(r), wildNodes(r))
	case 2, 3:
		return num([]int{0, 1, 10, 1 << 32}[r.Intn(4)], 0)
	}
	return variable([]string{"r", "s", "loops"}[r.Intn(3)], 0)
}

// wildTrees are about so many statements; a break stands outside of a loop now and then.
func wildTrees(r *rand.Rand, many, deep int, loop bool) []tree {
	var l []tree
	for many > 0 {
		s := api.Stmt{Kind: 1 + r.Intn(api.Check)}
		if r.Intn(2) == 0 && deep > 0 {
			s.Kind = api.If + r.Intn(2)
		}
		if s.Kind == api.Break && !loop && r.Intn(50) > 0 {
			s.Kind = api.Mfence
		}
		has := letters(s.Kind)
		if strings.Contains(has, "r") {
			s.Reg = []string{"r", "s", "abcdefghijklmnop"}[r.Intn(3)]
		}
		if strings.Contains(has, "n") {
			s.Name = []string{"a", "b", "_9"}[r.Intn(3)]
		}
		if strings.Contains(has, "e") {
			s.E = wildNodes(r)
		}
		if strings.Contains(has, "f") {
			s.F = wildNodes(r)
		}
		x := tree{s: s}
		if s.Kind == api.Loop {
			x.s.N = 1 + r.Intn(8)
		}
		many--
		if strings.Contains(has, "b") {
			in := r.Intn(many + 1)
			if r.Intn(3) == 0 {
				in = many
			}
			x.then = wildTrees(r, in, deep-1, loop || s.Kind == api.Loop)
			many -= in
		}
		if s.Kind == api.If && r.Intn(2) == 0 {
			in := r.Intn(many + 1)
			x.other = wildTrees(r, in, deep-1, loop)
			many -= in
		}
		l = append(l, x)
	}
	return l
}

func wildTokens(t *testing.T, r *rand.Rand) []api.Token {
	others := tokens(t, "{ } ; , = r 1 9 if else loop break mfence load flush ( + cas")
	l := tokens(t, "{"+shown(wildTrees(r, r.Intn(46), 3+r.Intn(12), false))+"}")
	for range r.Intn(3) {
		i := r.Intn(len(l) + 1)
		switch r.Intn(5) {
		case 0:
			l = slices.Insert(l, i, others[r.Intn(len(others))])
		case 1:
			l = l[:i]
		case 2:
			if i < len(l) {
				l = slices.Delete(l, i, i+1)
			}
		case 3:
			if i < len(l) {
				l[i].Kind, l[i].N = r.Intn(6)-1, r.Intn(20)-5
			}
		case 4:
			l = append(l, others[r.Intn(len(others))])
		}
	}
	for i := range l {
		l[i].At = i*20 + r.Intn(9)
	}
	return l
}

func TestParseWildLists(t *testing.T) {
	r := rand.New(rand.NewSource(3))
	got := map[api.Errno]int{}
	for range 6000 {
		l := wildTokens(t, r)
		i := 0
		if r.Intn(3) == 0 {
			i = r.Intn(len(l) + 1)
		}
		got[holdParse(t, l, i)]++
	}
	for _, e := range []api.Errno{api.OK, api.ErrToken, api.ErrEnd, api.ErrBig} {
		if got[e] < 100 {
			t.Errorf("the lists are not wild enough: %v", got)
		}
	}
}

// P4.2, P4.3: what is right, and what is shown

func holdRight(t *testing.T, l []api.Stmt) bool {
	t.Helper()
	depth := modelDepth(l)
	if stmt.Right(l) != (depth >= 0) || stmt.Depth(l) != depth {
		t.Fatalf("of %v: Right %v, Depth %d, want %d", l, stmt.Right(l), stmt.Depth(l), depth)
	}
	if depth < 0 && stmt.Show(l) != "" {
		t.Fatalf("of %v, that are not right, is shown %q", l, stmt.Show(l))
	}
	return depth >= 0
}

var wrongNodes = []api.Node{{Op: api.Add}, {Op: api.Num}}

// Each kind with all that there could be of each thing, alone, and within a loop.
func TestRightEachThing(t *testing.T) {
	rights := map[int]int{}
	exprs := [][]api.Node{nil, {}, num(1, 0), wrongNodes}
	for kind := -1; kind <= api.StmtKinds+1; kind++ {
		for _, reg := range []string{"", "r", "loop", "A", "abcdefghijklmnopq"} {
			for _, name := range []string{"", "a", "if", "9", "abcdefghijklmnopq"} {
				for _, e := range exprs {
					for _, f := range exprs {
						for _, n := range []int{math.MinInt, -1, 0, 1, 8, 9, math.MaxInt} {
							s := api.Stmt{Kind: kind, Reg: reg, Name: name, E: e, F: f, N: n}
							inLoop := []api.Stmt{{Kind: api.Loop, N: 2, Body: 1}, s}
							holdRight(t, inLoop[1:])
							if holdRight(t, inLoop) {
								rights[kind]++
							}
						}
					}
				}
			}
		}
	}
	if len(rights) != api.Check {
		t.Errorf("not all kinds can be right: %v", rights)
	}
}

func TestRightPlaces(t *testing.T) {
	for _, x := range []struct {
		at   int
		want bool
	}{{math.MinInt, false}, {-1, false}, {0, true}, {1, true}, {4000, true}, {4001, false}, {math.MaxInt, false}} {
		fence := api.Stmt{Kind: api.Mfence}
		placed := api.Stmt{Kind: api.Mfence, At: x.at}
		for _, l := range [][]api.Stmt{
			{placed}, {fence, placed, fence},
			{{Kind: api.Loop, N: 1, At: x.at}}, {{Kind: api.Loop, N: 1, Body: 1}, placed},
			{{Kind: api.If, E: num(1, 0), Body: 1, Else: 1}, fence, placed},
			{{Kind: api.Check, E: num(1, x.at)}},
			{{Kind: api.Cas, Reg: "r", Name: "a", E: num(1, 0), F: num(1, x.at)}},
		} {
			if holdRight(t, l) != x.want {
				t.Errorf("Right(%v) is not %v", l, x.want)
			}
		}
	}
}

// Body and Else of all numbers, of each two statements ahead of some more.
func TestRightBlocks(t *testing.T) {
	numbers := []int{math.MinInt, -2, -1, 0, 1, 2, 3, 4, 5, math.MaxInt - 1, math.MaxInt}
	one := func(kind int) api.Stmt {
		switch kind {
		case api.If, api.Check:
			return api.Stmt{Kind: kind, E: num(1, 0)}
		case api.Loop:
			return api.Stmt{Kind: kind, N: 1}
		}
		return api.Stmt{Kind: kind}
	}
	rights := 0
	for _, first := range []int{api.If, api.Loop, api.Mfence, api.Break, api.Check} {
		for _, second := range []int{api.If, api.Loop, api.Mfence, api.Break} {
			for _, last := range []int{api.Break, api.Sfence} {
				for _, then := range numbers {
					for _, other := range numbers {
						for _, innerThen := range numbers {
							for _, innerOther := range []int{-1, 0, 1, 2, math.MaxInt} {
								l := []api.Stmt{one(first), one(second), one(last), one(api.Mfence)}
								l[0].Body, l[0].Else, l[1].Body, l[1].Else = then, other, innerThen, innerOther
								if holdRight(t, l) {
									rights++
								}
							}
						}
					}
				}
			}
		}
	}
	if rights < 100 {
		t.Errorf("%d are right", rights)
	}
	is := api.Stmt{Kind: api.If, E: num(1, 0)}
	fence := api.Stmt{Kind: api.Mfence}
	for _, x := range []struct {
		then, other, behind int
		want                bool
	}{{0, 0, 0, true}, {2, 0, 2, true}, {0, 2, 2, true}, {1, 1, 2, true}, {1, 1, 3, true}, {1, 0, 0, false}, {3, 0, 2, false}, {0, 3, 2, false}, {2, 1, 2, false}, {1, 2, 2, false}} {
		is.Body, is.Else = x.then, x.other
		if l := append([]api.Stmt{is}, slices.Repeat([]api.Stmt{fence}, x.behind)...); stmt.Right(l) != x.want {
			t.Errorf("%+v", x)
		}
	}
}

func TestRightManyAndDeep(t *testing.T) {
	for n := range 60 {
		if l := slices.Repeat([]api.Stmt{{Kind: api.Mfence}}, n); stmt.Right(l) != (n <= 40) {
			t.Errorf("%d statements", n)
		}
		var tower, ifs, elses []api.Stmt
		for i := range n {
			tower = append(tower, api.Stmt{Kind: api.Loop, N: 1, Body: n - 1 - i})
			ifs = append(ifs, api.Stmt{Kind: api.If, E: num(0, 0), Body: n - 1 - i})
			elses = append(elses, api.Stmt{Kind: api.If, E: num(0, 0), Else: n - 1 - i})
		}
		for _, l := range [][]api.Stmt{tower, ifs, elses} {
			want := n
			if n > 12 {
				want = -1
			}
			if stmt.Right(l) != (n <= 12) || stmt.Depth(l) != want {
				t.Errorf("%d in one another: %v, %d", n, stmt.Right(l), stmt.Depth(l))
			}
			holdRight(t, l)
		}
	}
	if stmt.Right(make([]api.Stmt, 1000000)) || stmt.Show(make([]api.Stmt, 1000000)) != "" || stmt.Depth(make([]api.Stmt, 41)) != -1 {
		t.Error("too many are right")
	}
	big := []api.Stmt{{Kind: api.Check, E: make([]api.Node, 1000000)}}
	if stmt.Right(big) || stmt.Show(big) != "" {
		t.Error("a too big expression is right")
	}
}

func TestRightWildLists(t *testing.T) {
	r := rand.New(rand.NewSource(4))
	rights := 0
	for range 6000 {
		l := flat(wildTrees(r, 1+r.Intn(44), 4+r.Intn(12), false))
		for i := range l {
			l[i].At = r.Intn(4001)
		}
		for range r.Intn(3) {
			s := &l[r.Intn(len(l))]
			switch r.Intn(8) {
			case 0:
				s.Kind = r.Intn(api.StmtKinds+2) - 1
			case 1:
				s.N = r.Intn(11) - 1
			case 2:
				s.Body += r.Intn(3) - 1
			case 3:
				s.Else += r.Intn(3) - 1
			case 4:
				s.Reg = []string{"", "r", "loop"}[r.Intn(3)]
			case 5:
				s.Name = []string{"", "r", "loop"}[r.Intn(3)]
			case 6:
				s.E, s.F = s.F, s.E
			case 7:
				l = l[:1+r.Intn(len(l))]
			}
		}
		if holdRight(t, l) {
			rights++
		}
	}
	if rights < 1000 || rights > 5000 {
		t.Errorf("%d lists of 6000 are right", rights)
	}
}

const whole = `r = 1 + s;
load r = a;
store a = r == (s || 2);
cas r = a, 0, 1 + r;
flush a;
opt b;
sfence;
mfence;
take m;
give m;
if r {
  check r == 1;
} else {
  loop 3 {
    if !s {
      break;
    } else {
      if s {
      }
      store b = -1;
    }
  }
  loop 8 {
  }
}
if r {
} else {
  mfence;
}
`

func TestShowByHand(t *testing.T) {
	expectShown(t, "{"+whole+"}", whole)
	expectShown(t, "{"+strings.NewReplacer("\n", " ", "  ", " ").Replace(whole)+"}", whole)
	expectShown(t, "{}", "")
	expectShown(t, "{ if r { } else { } }", "if r {\n}\n")
	expectShown(t, "{loop 1{loop 002{}}}", "loop 1 {\n  loop 2 {\n  }\n}\n")
	expectShown(t, "{if a+b*2{r=(1);}}", "if a + (b * 2) {\n  r = 1;\n}\n")
	expectShown(t, "{cas r=a,(1),-(2);}", "cas r = a, 1, -2;\n")
	if s := stmt.Show(nil); s != "" {
		t.Errorf("nothing is shown as %q", s)
	}
	right := api.Stmt{Kind: api.Mfence}
	for _, wrong := range []api.Stmt{{}, {Kind: api.StmtKinds}, {Kind: api.Break}, {Kind: api.Load, Reg: "r"}, {Kind: api.Loop}, {Kind: api.Sfence, At: 4001}} {
		for _, l := range [][]api.Stmt{{wrong}, {right, wrong}, {wrong, right}, {{Kind: api.If, E: num(1, 0), Body: 1}, wrong, right}} {
			if s := stmt.Show(l); s != "" {
				t.Errorf("%v is shown as %q", l, s)
			}
		}
	}
}

func TestShowWild(t *testing.T) {
	r := rand.New(rand.NewSource(5))
	some := 0
	for range 3000 {
		trees := wildTrees(r, r.Intn(41), 5+r.Intn(8), false)
		l := flat(trees)
		if !stmt.Right(l) {
			continue
		}
		some++
		if s := stmt.Show(l); s != shown(trees) {
			t.Fatalf("%v is shown as %q, want %q", l, s, shown(trees))
		}
	}
	if some < 1000 {
		t.Errorf("%d were right", some)
	}
}

func TestHas(t *testing.T) {
	for kind := -20; kind <= 40; kind++ {
		if got := stmt.Has(kind); got != letters(kind) {
			t.Errorf("Has(%d) = %q, want %q", kind, got, letters(kind))
		}
	}
	if stmt.Has(math.MinInt) != "" || stmt.Has(math.MaxInt) != "" {
		t.Error("others have something")
	}
	if stmt.Has(api.Cas) != "rnef" || stmt.Has(api.If) != "eb" || stmt.Has(api.Loop) != "kb" {
		t.Error("not the table's letters")
	}
}

func TestDepthByHand(t *testing.T) {
	for _, x := range []struct {
		s    string
		want int
	}{
		{"{}", 0}, {"{ mfence; }", 0}, {"{ if r { } }", 1}, {"{ loop 1 { } }", 1}, {"{ if r { mfence; } else { mfence; } }", 1},
		{"{ if r { } else { loop 1 { } } }", 2}, {"{ if r { loop 1 { } } else { mfence; } }", 2},
		{"{ loop 1 { } loop 1 { loop 1 { } mfence; } mfence; if r { } }", 2},
	} {
		l, _, e, _ := stmt.Parse(tokens(t, x.s), 0)
		if e != api.OK || stmt.Depth(l) != x.want {
			t.Errorf("Depth of %q is %d", x.s, stmt.Depth(l))
		}
	}
	if stmt.Depth(nil) != 0 || stmt.Depth([]api.Stmt{}) != 0 || stmt.Depth([]api.Stmt{{}}) != -1 || stmt.Depth([]api.Stmt{{Kind: api.Break}}) != -1 {
		t.Error("of none, or of wrong ones")
	}
}

func copied(l []api.Stmt) []api.Stmt {
	c := slices.Clone(l)
	for i := range c {
		c[i].E, c[i].F = slices.Clone(c[i].E), slices.Clone(c[i].F)
	}
	return c
}

func TestSame(t *testing.T) {
	l, _, _, _ := stmt.Parse(tokens(t, each), 0)
	far := copied(l)
	for i := range far {
		far[i].At = -9 * i
		for k := range far[i].E {
			far[i].E[k].At += 5000
		}
		for k := range far[i].F {
			far[i].F[k].At = -1
		}
	}
	if !stmt.Same(l, far) || !stmt.Same(far, l) || !stmt.Same(l, l) {
		t.Error("places count")
	}
	if !stmt.Same(nil, nil) || !stmt.Same(nil, []api.Stmt{}) || !stmt.Same([]api.Stmt{{E: []api.Node{}}}, []api.Stmt{{F: []api.Node{}}}) {
		t.Error("an empty list is not as none")
	}
	for i := range l {
		for _, change := range []func(*api.Stmt){
			func(s *api.Stmt) { s.Kind++ },
			func(s *api.Stmt) { s.Reg += "x" },
			func(s *api.Stmt) { s.Name += "x" },
			func(s *api.Stmt) { s.N++ },
			func(s *api.Stmt) { s.Body++ },
			func(s *api.Stmt) { s.Else-- },
			func(s *api.Stmt) { s.E = append(s.E, api.Node{}) },
			func(s *api.Stmt) { s.F = append(s.F, api.Node{}) },
			func(s *api.Stmt) { s.E = num(77, 0) },
			func(s *api.Stmt) { s.F = variable("z", 0) },
		} {
			other := copied(l)
			change(&other[i])
			if stmt.Same(l, other) || stmt.Same(other, l) || !stmt.Same(other, copied(other)) {
				t.Errorf("Same(%v, %v)", l, other)
			}
		}
		if stmt.Same(l, l[:i]) || stmt.Same(l[:i], l) || !stmt.Same(l[:i], far[:i]) {
			t.Errorf("Same with %d statements", i)
		}
	}
	// They need not be right.
	wrong := []api.Stmt{{Kind: 99, Reg: "loop", N: -1, Body: -5, Else: math.MaxInt, E: wrongNodes}}
	if stmt.Right(wrong) || !stmt.Same(wrong, copied(wrong)) {
		t.Error("those that are not right differ")
	}
}

// P4.4: there and back

func TestShownIsRead(t *testing.T) {
	r := rand.New(rand.NewSource(6))
	some, deepest := 0, 0
	for range 4000 {
		l := flat(wildTrees(r, r.Intn(41), 5+r.Intn(8), false))
		for i := range l {
			l[i].At = r.Intn(4001)
		}
		s := "{" + stmt.Show(l) + "}"
		if !stmt.Right(l) || len(s) > api.MaxText {
			continue
		}
		some++
		deepest = max(deepest, stmt.Depth(l))
		read := tokens(t, s)
		back, to, e, at := stmt.Parse(read, 0)
		if e != api.OK || at != 0 || to != len(read) || !stmt.Same(l, back) || !stmt.Right(back) || "{"+stmt.Show(back)+"}" != s {
			t.Fatalf("%v, shown %q, is read as %v, %d, %d, %d", l, s, back, to, int(e), at)
		}
	}
	if some < 1500 || deepest != 12 {
		t.Errorf("%d were right, the deepest one %d", some, deepest)
	}
}

func TestReadIsRight(t *testing.T) {
	r := rand.New(rand.NewSource(7))
	some := 0
	for range 2000 {
		s := scan.Show(wildTokens(t, r))
		l, e, _ := scan.Scan(s)
		if e != api.OK {
			continue
		}
		for i := range l {
			got, to, e, _ := stmt.Parse(l, i)
			if e != api.OK {
				continue
			}
			some++
			if !stmt.Right(got) || to <= i+1 || to > len(l) || !scan.Is(l, to-1, "}") {
				t.Fatalf("%q, from %d: %v, up to %d", s, i, got, to)
			}
			for _, one := range got {
				if !slices.ContainsFunc(l[i+1:to-1], func(token api.Token) bool { return token.At == one.At }) {
					t.Fatalf("%q, from %d: %v stands nowhere", s, i, one)
				}
			}
		}
	}
	if some < 1000 {
		t.Errorf("%d were read", some)
	}
}

// R4: memory

func TestArgumentsStay(t *testing.T) {
	room := tokens(t, each+" x y z")
	before := slices.Clone(room)
	for n := range room {
		stmt.Parse(room[:n], 0)
		if !slices.Equal(room, before) {
			t.Fatalf("Parse of %d tokens changes what it is given", n)
		}
	}
	l, _, _, _ := stmt.Parse(room, 0)
	behind := append(copied(l), api.Stmt{Kind: api.Mfence}, api.Stmt{Kind: api.Load})
	for i := range behind {
		behind[i].E = append(behind[i].E, num(5, 5)...)[:len(behind[i].E)]
	}
	want := copied(behind)
	given := behind[:len(l)]
	stmt.Right(given)
	stmt.Show(given)
	stmt.Depth(given)
	stmt.Same(given, given)
	if !alike(behind, want) {
		t.Error("statements that are handed in are changed")
	}
}

func TestAnswersAreNew(t *testing.T) {
	l := tokens(t, each)
	one, _, _, _ := stmt.Parse(l, 0)
	two, _, _, _ := stmt.Parse(l, 0)
	want := copied(one)
	for i := range l {
		l[i] = api.Token{Text: "z", Kind: api.Word}
	}
	if !alike(one, want) {
		t.Error("an answer shares memory with what was handed in")
	}
	// Each list of an answer is spoilt, with its spare room, and no other one may tell.
	for i := range one {
		for _, nodes := range []*[]api.Node{&one[i].E, &one[i].F} {
			spoilt := (*nodes)[:cap(*nodes)]
			for k := range spoilt {
				spoilt[k] = api.Node{Op: 99}
			}
			*nodes = nil
			for k := range one {
				if one[k].E != nil && !slices.Equal(one[k].E, want[k].E) || one[k].F != nil && !slices.Equal(one[k].F, want[k].F) {
					t.Fatalf("two lists of one answer share memory: %d and %d", i, k)
				}
			}
		}
	}
	spoilt := one[:cap(one)]
	for i := range spoilt {
		spoilt[i] = api.Stmt{Kind: 99}
	}
	if !alike(two, want) || !expr.Same(two[0].E, want[0].E) {
		t.Error("two answers share memory")
	}
}
