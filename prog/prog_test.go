package prog_test

import (
	"fmt"
	"math"
	"math/rand"
	"reflect"
	"slices"
	"strings"
	"testing"

	"leadline/api"
	"leadline/expr"
	"leadline/prog"
	"leadline/scan"
	"leadline/stmt"
)

func num(n, at int) []api.Node { return []api.Node{{Op: api.Num, N: n, At: at}} }

func variable(s string, at int) []api.Node { return []api.Node{{Op: api.Var, Name: s, At: at}} }

func must(t *testing.T, s string) api.Prog {
	t.Helper()
	p, e, at := prog.Parse(s)
	if e != api.OK || at != 0 {
		t.Fatalf("Parse(%q): %d, %d", s, int(e), at)
	}
	return p
}

// expectRead holds what is read of a text, places too.
func expectRead(t *testing.T, s string, want api.Prog) {
	t.Helper()
	if got, e, at := prog.Parse(s); e != api.OK || at != 0 || told(got) != told(want) {
		t.Errorf("Parse(%q) = %s, %d, %d, want %s", s, told(got), int(e), at, told(want))
	}
}

func expectWrong(t *testing.T, s string, want api.Errno, place int) {
	t.Helper()
	if got, e, at := prog.Parse(s); e != want || at != place || told(got) != told(api.Prog{}) {
		t.Errorf("Parse(%q) = %s, %d, %d, want %d, %d", s, told(got), int(e), at, int(want), place)
	}
}

func expectShown(t *testing.T, s, want string) {
	t.Helper()
	if got := prog.Show(must(t, s)); got != want {
		t.Errorf("%q is shown as %q, want %q", s, got, want)
	}
}

func holdParse(t *testing.T, s string) api.Errno {
	t.Helper()
	got, e, at := prog.Parse(s)
	want, wantE, wantAt := modelParse(s)
	if e != wantE || at != wantAt || told(got) != told(want) {
		t.Fatalf("Parse(%q) = %s, %d, %d, want %s, %d, %d", s, told(got), int(e), at, told(want), int(wantE), wantAt)
	}
	return e
}

// P5.1: what is read

func TestParseEachPart(t *testing.T) {
	expectRead(t, "line a;", api.Prog{Lines: [][]api.Cell{{{Name: "a", At: 5}}}})
	expectRead(t, "line a = 1, b;", api.Prog{Lines: [][]api.Cell{{{Name: "a", N: 1, At: 5}, {Name: "b", At: 12}}}})
	expectRead(t, " vol x=1,y;", api.Prog{Vols: []api.Cell{{Name: "x", N: 1, At: 5}, {Name: "y", At: 9}}})
	expectRead(t, "lock m, n;", api.Prog{Locks: []api.Cell{{Name: "m", At: 5}, {Name: "n", At: 8}}})
	expectRead(t, "thread t { }", api.Prog{Threads: []api.Thread{{Name: "t", At: 7}}})
	expectRead(t, "thread t { reg r; }", api.Prog{Threads: []api.Thread{{Name: "t", Regs: []string{"r"}, At: 7}}})
	expectRead(t, "thread t { reg r, s; r = 1; mfence; }", api.Prog{Threads: []api.Thread{{Name: "t", Regs: []string{"r", "s"}, At: 7,
		Body: []api.Stmt{{Kind: api.Set, Reg: "r", E: num(1, 25), At: 21}, {Kind: api.Mfence, At: 28}}}}})
	expectRead(t, "thread t { mfence; }", api.Prog{Threads: []api.Thread{{Name: "t", At: 7, Body: []api.Stmt{{Kind: api.Mfence, At: 11}}}}})
	expectRead(t, "  recover { }", api.Prog{Recover: []api.Thread{{At: 2}}})
	expectRead(t, "recover{reg r;sfence;}", api.Prog{Recover: []api.Thread{{Regs: []string{"r"}, Body: []api.Stmt{{Kind: api.Sfence, At: 14}}}}})
	expectRead(t, " always a;", api.Prog{Claims: []api.Claim{{E: variable("a", 8), At: 1}}})
	expectRead(t, "line a; always a == 0;", api.Prog{Lines: [][]api.Cell{{{Name: "a", At: 5}}},
		Claims: []api.Claim{{E: []api.Node{{Op: api.Eq, At: 17}, {Op: api.Var, Name: "a", At: 15}, {Op: api.Num, At: 20}}, At: 8}}})
}

func TestParseNothing(t *testing.T) {
	for _, s := range []string{"", " ", "\t\r\n", "// line a;", "\n// x\n//", strings.Repeat("\n", 4000)} {
		expectRead(t, s, api.Prog{})
	}
}

func TestParseSeveral(t *testing.T) {
	cells := func(names string, at ...int) []api.Cell {
		var l []api.Cell
		for i, name := range strings.Fields(names) {
			l = append(l, api.Cell{Name: name, At: at[i]})
		}
		return l
	}
	// Each line is its own, all cells that do not stay are one list, and so are all locks.
	expectRead(t, "line a; line b, c; line a;", api.Prog{Lines: [][]api.Cell{cells("a", 5), cells("b c", 13, 16), cells("a", 24)}})
	expectRead(t, "vol x; vol y, z; vol x;", api.Prog{Vols: cells("x y z x", 4, 11, 14, 21)})
	expectRead(t, "lock m; lock n; lock k, m;", api.Prog{Locks: cells("m n k m", 5, 13, 21, 24)})
	expectRead(t, "thread t { } thread u { reg r; } thread t { }", api.Prog{Threads: []api.Thread{{Name: "t", At: 7}, {Name: "u", Regs: []string{"r"}, At: 20}, {Name: "t", At: 40}}})
	expectRead(t, "always a; always 1; always a;", api.Prog{Claims: []api.Claim{{E: variable("a", 7)}, {E: num(1, 17), At: 10}, {E: variable("a", 27), At: 20}}})
	var want api.Prog
	var s strings.Builder
	for i := range 300 {
		want.Lines = append(want.Lines, cells("a", 8*i+5))
		s.WriteString("line a; ")
	}
	expectRead(t, s.String(), want)
}

func TestParseNumbers(t *testing.T) {
	for _, x := range []struct {
		text string
		n    int
	}{{"0", 0}, {"00", 0}, {"1", 1}, {"007", 7}, {"4294967295", 4294967295}, {"4294967296", 4294967296}, {"00004294967296", 4294967296}} {
		expectRead(t, "line a = "+x.text+";", api.Prog{Lines: [][]api.Cell{{{Name: "a", N: x.n, At: 5}}}})
		expectRead(t, "vol a = "+x.text+", b;", api.Prog{Vols: []api.Cell{{Name: "a", N: x.n, At: 4}, {Name: "b", At: 10 + len(x.text)}}})
		expectWrong(t, "lock m = "+x.text+";", api.ErrToken, 7)
	}
	for _, big := range []string{"4294967297", "9223372036854775807", "9223372036854775808", "18446744073709551616", strings.Repeat("9", 300)} {
		expectWrong(t, "line a = "+big+";", api.ErrNumber, 9)
		expectWrong(t, "vol a = 1, b = "+big+";", api.ErrNumber, 15)
	}
	for _, other := range []string{"-1", "a", "(1)", "=", ";", ",", "+ 1", "line"} {
		expectWrong(t, "line a = "+other+";", api.ErrToken, 9)
		expectWrong(t, "vol a = "+other+";", api.ErrToken, 8)
	}
	expectWrong(t, "line a = 1 + 1;", api.ErrToken, 11)
	expectWrong(t, "line a = 1 2;", api.ErrToken, 11)
	expectWrong(t, "line a == 1;", api.ErrToken, 7)
}

// Where a name must stand, a text is ahead of it.
var beforeNames = []string{"line ", "line a, ", "line a = 1, ", "vol ", "vol a = 1, ", "lock ", "lock m, ", "thread ", "thread t { reg ", "thread t { reg r, ", "recover { reg ", "recover { reg r, "}

func TestParseNames(t *testing.T) {
	for _, ahead := range beforeNames {
		behind := ";"
		if strings.Contains(ahead, "{") {
			behind = "; }"
		} else if strings.Contains(ahead, "thread") {
			behind = " { }"
		}
		for _, name := range []string{"a", "_", "_1", "lines", "regs", "abcdefghijklmnop"} {
			if p := must(t, ahead+name+behind); !strings.Contains(prog.Show(p), name) {
				t.Errorf("of %q the name is not there: %s", ahead+name+behind, told(p))
			}
		}
		expectWrong(t, ahead+"abcdefghijklmnopq"+behind, api.ErrBig, len(ahead))
		for _, kept := range strings.Fields(keptWords) {
			expectWrong(t, ahead+kept+behind, api.ErrToken, len(ahead))
		}
		for _, other := range []string{"1", "=", ";", ",", "{", "}", "(", "!"} {
			expectWrong(t, ahead+other, api.ErrToken, len(ahead))
		}
		expectWrong(t, ahead, api.ErrEnd, len(ahead)-1)
		expectWrong(t, ahead+"Name"+behind, api.ErrChar, len(ahead))
	}
	for _, kept := range strings.Fields(keptWords) {
		expectWrong(t, "always "+kept+";", api.ErrToken, 7)
		expectWrong(t, "thread t { load "+kept+" = a; }", api.ErrToken, 16)
	}
}

const whole = `line a = 1, b;
line c;
vol x, y = 2;
lock m, n;
thread t {
  reg r, s;
  load r = a;
  if r == s {
    store b = -1;
  } else {
    loop 3 {
      cas s = a, r + 1, 2;
      break;
    }
  }
  take m;
}
thread u {
  flush a;
}
thread v {
}
recover {
  reg r;
  load r = b;
}
always a == b;
always (c < 2) && !a;
`

func TestParseWhole(t *testing.T) {
	expectShown(t, whole, whole)
	p := must(t, whole)
	for _, x := range []struct {
		at          int
		ahead, word string
	}{
		{p.Lines[0][0].At, "", "a = 1"}, {p.Lines[0][1].At, "", "b;"}, {p.Lines[1][0].At, "", "c;"}, {p.Vols[0].At, "vol ", "x"}, {p.Vols[1].At, "", "y"},
		{p.Locks[0].At, "lock ", "m"}, {p.Locks[1].At, "", "n;\n"}, {p.Threads[0].At, "thread ", "t {"}, {p.Threads[1].At, "thread ", "u {"}, {p.Threads[2].At, "thread ", "v {"},
		{p.Recover[0].At, "", "recover"}, {p.Claims[0].At, "", "always a"}, {p.Claims[1].At, "", "always ("}, {p.Claims[1].E[0].At, "2) ", "&&"},
		{p.Threads[0].Body[0].At, "", "load r = a"}, {p.Threads[0].Body[1].At, "", "if r"}, {p.Threads[0].Body[6].At, "", "take m"}, {p.Recover[0].Body[0].At, "", "load r = b"},
	} {
		if want := strings.Index(whole, x.ahead+x.word) + len(x.ahead); x.at != want {
			t.Errorf("%q stands at %d, not at %d", x.word, want, x.at)
		}
	}
	if len(p.Threads) != 3 || len(p.Threads[0].Body) != 7 || p.Recover[0].Name != "" {
		t.Errorf("%s", told(p))
	}
}

// P5.1: what is wrong

func TestParseTextsThatAreNone(t *testing.T) {
	expectWrong(t, "#", api.ErrChar, 0)
	expectWrong(t, "line a; A", api.ErrChar, 8)
	expectWrong(t, "line a; // A\n&", api.ErrChar, 13)
	expectWrong(t, "thread t { r = 4294967297; }", api.ErrNumber, 15)
	expectWrong(t, "thread abcdefghijklmnopq { }", api.ErrBig, 7)
	// They are told ahead of all that is wrong with tokens.
	expectWrong(t, "; line line thread { break; } \x00", api.ErrChar, 30)
	expectWrong(t, "vol x; line a; always 4294967297", api.ErrNumber, 22)
	expectWrong(t, "always ; always abcdefghijklmnopq", api.ErrBig, 16)
}

func TestParseLongTexts(t *testing.T) {
	for _, s := range []string{"", "line a;", "always a;", whole} {
		full := s + strings.Repeat(" ", 4000-len(s))
		expectShown(t, full, prog.Show(must(t, s)))
		expectWrong(t, full+" ", api.ErrBig, 4000)
		expectWrong(t, full+"#", api.ErrBig, 4000)
		ahead := strings.Repeat("\n", 4000-len(s)) + s
		expectShown(t, ahead, prog.Show(must(t, s)))
		expectWrong(t, "\n"+ahead, api.ErrBig, 4000)
	}
	expectRead(t, strings.Repeat(" ", 3993)+"line a;", api.Prog{Lines: [][]api.Cell{{{Name: "a", At: 3998}}}})
	expectWrong(t, strings.Repeat(" ", 3994)+"line a", api.ErrEnd, 4000)
	expectWrong(t, strings.Repeat(" ", 3999)+"x", api.ErrToken, 3999)
	expectWrong(t, strings.Repeat("line", 1000)+" ", api.ErrBig, 4000)
	expectWrong(t, strings.Repeat("thread t {", 1000000), api.ErrBig, 4000)
	for _, much := range []string{"vol x;", "lock m;", "thread t{}", "always a;", "thread t{reg r;r=1;}"} {
		if e := holdParse(t, strings.Repeat(much, 4000/len(much))); e != api.OK {
			t.Errorf("many of %q: %d", much, int(e))
		}
	}
}

func TestParseEndsTooEarly(t *testing.T) {
	pieces := []string{"line a = 1, b;", "line c;", "vol x, y = 2;", "vol z;", "lock m, n;", "lock k;", "thread t { reg r, s; load r = a; if r { } else { mfence; } }", "thread u { sfence; }", "thread v { }", "recover { reg r; loop 2 { r = (r); break; } }", "always a == b;", "always 1;"}
	ahead := ""
	for _, piece := range pieces {
		expectShown(t, ahead, shown(must(t, ahead)))
		l, _, _ := scan.Scan(piece)
		for n := 1; n < len(l); n++ {
			s := ahead + piece[:l[n].At]
			behind := len(ahead) + l[n-1].At + len(l[n-1].Text)
			expectWrong(t, s, api.ErrEnd, behind)
			expectWrong(t, s+" // } ;", api.ErrEnd, behind)
			expectWrong(t, s+"\n\n", api.ErrEnd, behind)
		}
		ahead += piece + "\n"
	}
	expectShown(t, ahead, shown(must(t, ahead)))
}

var others = strings.Fields("line vol lock thread reg recover always a 1 0 = == , ; { } ( ! - + if else loop break mfence load store check")

func TestParseOtherTokens(t *testing.T) {
	l := strings.Fields(strings.NewReplacer(";", " ; ", ",", " , ", "(", "( ", ")", " )").Replace(whole))
	for i := range l {
		for _, other := range others {
			changed := slices.Clone(l)
			changed[i] = other
			holdParse(t, strings.Join(changed, " "))
			holdParse(t, strings.Join(slices.Insert(slices.Clone(l), i, other), " "))
		}
		holdParse(t, strings.Join(slices.Delete(slices.Clone(l), i, i+1), " "))
		holdParse(t, strings.Join(l[i:], " "))
	}
	for _, other := range others {
		if !slices.Contains(order, other) {
			expectWrong(t, other, api.ErrToken, 0)
			expectWrong(t, "line a; "+other, api.ErrToken, 8)
			expectWrong(t, "always a; "+other, api.ErrToken, 10)
		}
	}
	for _, other := range []string{"line a b;", "lock m n;", "vol x y;"} {
		expectWrong(t, other, api.ErrToken, len(other)-2)
	}
	expectWrong(t, "line a,;", api.ErrToken, 7)
	expectWrong(t, "line a;;", api.ErrToken, 7)
	expectWrong(t, "thread t;", api.ErrToken, 8)
	expectWrong(t, "thread t { };", api.ErrToken, 12)
	expectWrong(t, "thread t reg r; { }", api.ErrToken, 9)
	expectWrong(t, "thread t { } }", api.ErrToken, 13)
	expectWrong(t, "thread t { reg r }", api.ErrToken, 17)
	expectWrong(t, "thread t { reg r s; }", api.ErrToken, 17)
	expectWrong(t, "thread t { reg r = 1; }", api.ErrToken, 17)
	expectWrong(t, "thread t { reg r; reg s; }", api.ErrToken, 18)
	expectWrong(t, "thread t { mfence; reg r; }", api.ErrToken, 19)
	expectWrong(t, "thread t { reg r; { } }", api.ErrToken, 18)
	expectWrong(t, "thread t { reg r; ; }", api.ErrToken, 18)
	expectWrong(t, "thread t { { } }", api.ErrToken, 11)
	expectWrong(t, "thread t { loop 1 { reg r; } }", api.ErrToken, 20)
	expectWrong(t, "recover t { }", api.ErrToken, 8)
	expectWrong(t, "recover ;", api.ErrToken, 8)
	expectWrong(t, "always a, b;", api.ErrToken, 8)
	expectWrong(t, "always a }", api.ErrToken, 9)
}

// Each part behind each part.
func TestParseOrder(t *testing.T) {
	pieces := []string{"line a;", "vol x;", "lock m;", "thread t { }", "recover { }", "always a;"}
	for i, first := range pieces {
		for k, second := range pieces {
			s := first + " " + second
			if i < k || i == k && first != "recover { }" {
				expectShown(t, s, shown(must(t, s)))
				if p := must(t, s); len(p.Lines)+len(p.Vols)+len(p.Locks)+len(p.Threads)+len(p.Recover)+len(p.Claims) != 2 {
					t.Errorf("%q is read as %s", s, told(p))
				}
			} else {
				expectWrong(t, s, api.ErrToken, len(first)+1)
				expectWrong(t, "// "+second+"\n"+first+second, api.ErrToken, len(first)+len(second)+4)
			}
			for _, third := range pieces {
				holdParse(t, s+" "+third)
				holdParse(t, s+" "+third+" "+first)
			}
		}
	}
	expectWrong(t, "recover { } recover { }", api.ErrToken, 12)
	expectWrong(t, "recover { } always a; recover { }", api.ErrToken, 22)
	expectWrong(t, "thread t { } recover { } thread u { }", api.ErrToken, 25)
	expectWrong(t, "recover { } recover", api.ErrToken, 12)
}

// What is ahead of statements, and the byte of the { that is theirs.
var heads = []struct {
	text string
	open int
}{
	{"thread t {", 9}, {"thread t { reg r, s;", 9}, {"recover {", 8}, {"recover { reg r;", 8},
	{"line a; thread t { reg r; mfence; } thread u {", 45}, {"thread t { reg r; } recover { reg r, s, q; ", 28},
}

func TestParseStatements(t *testing.T) {
	for _, head := range heads {
		at := len(head.text)
		for _, x := range []struct {
			body string
			want api.Errno
			at   int
		}{
			{"break; }", api.ErrToken, 0}, {"if r { break; } }", api.ErrToken, 7}, {"loop 1 { } break; }", api.ErrToken, 11}, {"loop 1 { if r { } else { break; } } break", api.ErrToken, 36},
			{"loop 0 { } }", api.ErrRange, 5}, {"loop 9 { } }", api.ErrRange, 5}, {"loop r { } }", api.ErrToken, 5},
			{"r = ; }", api.ErrToken, 4}, {"r = (1 ; }", api.ErrToken, 7}, {"r = 1 }", api.ErrToken, 6}, {"check !; }", api.ErrToken, 7}, {"r = 1", api.ErrEnd, 5}, {"r =", api.ErrEnd, 3}, {"if r {", api.ErrEnd, 6},
			{"r = " + strings.Repeat("(", 13), api.ErrDeep, 16}, {"r = " + strings.Repeat("!", 12) + "-1; }", api.ErrDeep, 16},
			{"if r" + strings.Repeat("+1", 12) + " { } }", api.ErrDeep, 3}, {"r = " + big + "; }", api.ErrBig, 4}, {"mfence; cas r = a, 1, " + big + "; }", api.ErrBig, 22},
		} {
			expectWrong(t, head.text+x.body, x.want, at+x.at)
		}
		for _, body := range []string{
			"loop 1 { break; }", "loop 8 { if r { } else { break; } }", "r = " + sum(1) + ";", "if " + forty + " { }", "cas r = a, " + forty + ", " + forty + ";",
			"r = " + strings.Repeat("-", 11) + "1;", "r = " + strings.Repeat("(", 12) + "1" + strings.Repeat(")", 12) + ";", "r = 1" + strings.Repeat("+1", 11) + ";",
		} {
			if e := holdParse(t, head.text+body+"}"); e != api.OK {
				t.Errorf("%q: %d", head.text+body, int(e))
			}
		}
	}
}

// sum is one of so many registers, that is not deep: it has one node less than twice as many.
func sum(n int) string {
	if n == 1 {
		return "r"
	}
	return "(" + sum(n/2) + "+" + sum(n-n/2) + ")"
}

// Of 41 nodes, and of 40.
var (
	big   = sum(21)
	forty = "-" + sum(20)
)

func TestParseDeepBlocks(t *testing.T) {
	for _, head := range heads {
		for _, ahead := range []string{"loop 1 {", "if r {", "if r { } else {"} {
			for n := range 16 {
				s := head.text + strings.Repeat(ahead, n) + strings.Repeat("}", n+1)
				if n > 12 {
					place := len(head.text) + 13*len(ahead) - 1
					if strings.Contains(ahead, "else") {
						place -= len("{ } else ") // the body is as deep as the else
					}
					expectWrong(t, s, api.ErrDeep, place)
					continue
				}
				p := must(t, s)
				body := append(p.Threads, p.Recover...)
				if got := stmt.Depth(body[len(body)-1].Body); got != n || !prog.Right(p) {
					t.Errorf("%q: %d deep, %v", s, got, prog.Right(p))
				}
			}
		}
	}
}

func TestParseManyStatements(t *testing.T) {
	for _, head := range heads {
		for _, x := range []struct {
			ahead, behind string
			more          int
		}{{"", "", 0}, {"loop 1 {", "}", 1}, {"if r { mfence; } else {", "} sfence;", 3}} {
			for n := range 45 {
				s := head.text + x.ahead + strings.Repeat("mfence;", n) + x.behind + "} always a;"
				if n+x.more > 40 {
					expectWrong(t, s, api.ErrBig, head.open)
					continue
				}
				p := must(t, s)
				body := append(p.Threads, p.Recover...)
				if got := len(body[len(body)-1].Body); got != n+x.more || !prog.Right(p) {
					t.Errorf("%q: %d statements, %v", s, got, prog.Right(p))
				}
			}
		}
	}
	// Each thread may have as many.
	block := "{ reg r; " + strings.Repeat("mfence;", 40) + "}"
	if p := must(t, "thread t "+block+"thread u "+block+"recover "+block); len(p.Threads[0].Body) != 40 || len(p.Threads[1].Body) != 40 || len(p.Recover[0].Body) != 40 {
		t.Errorf("%s", told(p))
	}
}

func TestParseClaims(t *testing.T) {
	for _, x := range []struct {
		s    string
		want api.Errno
		at   int
	}{
		{"", api.ErrEnd, -1}, {";", api.ErrToken, 0}, {"a", api.ErrEnd, 1}, {"a b;", api.ErrToken, 2}, {"a +;", api.ErrToken, 3}, {"(a;", api.ErrToken, 2}, {"(a", api.ErrEnd, 2}, {"a < b < c;", api.ErrToken, 6},
		{strings.Repeat("(", 13), api.ErrDeep, 12}, {strings.Repeat("!", 13) + "1;", api.ErrDeep, 12}, {"a" + strings.Repeat("+1", 12) + ";", api.ErrDeep, 0}, {big + ";", api.ErrBig, 0}, {"always;", api.ErrToken, 0}, {"a = 1;", api.ErrToken, 2},
	} {
		expectWrong(t, "always "+x.s, x.want, 7+x.at)
		expectWrong(t, "line a; always a; always "+x.s, x.want, 25+x.at)
	}
	if p := must(t, "always "+forty+";always 1"+strings.Repeat("+1", 11)+";"); len(p.Claims[0].E) != 40 || expr.Depth(p.Claims[1].E) != 12 || !prog.Right(p) {
		t.Errorf("%s", told(p))
	}
}

func TestParseFirstError(t *testing.T) {
	many := "thread t { reg r;" + strings.Repeat("mfence;", 41)
	at := len(many)
	expectWrong(t, many+"}", api.ErrBig, 9)
	expectWrong(t, many+"} line a; recover {", api.ErrBig, 9)
	expectWrong(t, many+"} thread u {"+strings.Repeat("mfence;", 41)+"}", api.ErrBig, 9)
	expectWrong(t, "thread u { break; } "+many+"}", api.ErrToken, 11)
	expectWrong(t, "vol x; line a; "+many+"}", api.ErrToken, 7)
	// Within the statements what is wrong with a token is told ahead of how many there are.
	expectWrong(t, many, api.ErrEnd, at)
	expectWrong(t, many+"; }", api.ErrToken, at)
	expectWrong(t, many+"break; }", api.ErrToken, at)
	expectWrong(t, many+"loop 9 { }", api.ErrRange, at+5)
	expectWrong(t, many+"check "+strings.Repeat("(", 13), api.ErrDeep, at+18)
	expectWrong(t, many+"check "+big+";}", api.ErrBig, at+6)
	expectWrong(t, "line a; lock 1; vol 2; always", api.ErrToken, 13)
	expectWrong(t, "line a = ; always ;", api.ErrToken, 9)
	expectWrong(t, "thread t { loop 9 { break } break", api.ErrRange, 16)
	expectWrong(t, "thread t { reg break; break", api.ErrToken, 15)
	expectWrong(t, "always "+strings.Repeat("(", 13)+" ;", api.ErrDeep, 19)
	expectWrong(t, "recover { } recover { break; }", api.ErrToken, 12)
	expectWrong(t, "always a; line 4294967297;", api.ErrNumber, 15)
}

func TestParseShortTexts(t *testing.T) {
	alphabet := strings.Fields("line vol lock thread reg recover always a 1 = , ; { } mfence")
	var grow func(s string, left int)
	grow = func(s string, left int) {
		holdParse(t, s)
		if left == 0 {
			return
		}
		for _, text := range alphabet {
			grow(s+" "+text, left-1)
		}
	}
	for _, start := range []string{"", "line a", "vol a = 1 ,", "lock a ;", "thread a {", "thread a { reg a", "recover {", "recover { reg a ;", "recover { }", "always a ;"} {
		grow(start, 3)
	}
}

// changed is a text with a token, or a piece, left out, put in, changed, or put elsewhere.
func changed(r *rand.Rand, s string) string {
	l := strings.Fields(s)
	for range r.Intn(3) {
		i := r.Intn(len(l) + 1)
		to := i + min(r.Intn(12), len(l)-i)
		switch r.Intn(6) {
		case 0:
			l = slices.Insert(l, i, others[r.Intn(len(others))])
		case 1:
			l = l[:i]
		case 2:
			l = slices.Delete(l, i, min(i+1, len(l)))
		case 3:
			if i < len(l) {
				l[i] = others[r.Intn(len(others))]
			}
		case 4:
			l = slices.Concat(l[:i], l[to:], l[i:to])
		case 5:
			l = append(l, strings.Fields(wildText(r))...)
		}
	}
	return strings.Join(l, " ")
}

func TestParseWildTexts(t *testing.T) {
	r := rand.New(rand.NewSource(1))
	got := map[api.Errno]int{}
	for range 5000 {
		got[holdParse(t, spread(r, changed(r, wildText(r))))]++
	}
	for _, e := range []api.Errno{api.OK, api.ErrToken, api.ErrEnd} {
		if got[e] < 300 {
			t.Errorf("the texts are not wild enough: %v", got)
		}
	}
}

// P5.2: what has the form, and what is shown

// right is a program with all that there can be, and its places at both bounds.
func right(t *testing.T) api.Prog {
	t.Helper()
	p := must(t, whole)
	for i, at := range values(&p, reflect.Int, true) {
		at.SetInt(int64([]int{0, 4000, 1, 3999}[i%4]))
	}
	return p
}

func expectRight(t *testing.T, p api.Prog, want bool) {
	t.Helper()
	if prog.Right(p) != want {
		t.Errorf("Right(%s) is %v", told(p), !want)
	}
	if !want && prog.Show(p) != "" {
		t.Errorf("%s, that has not the form, is shown as %q", told(p), prog.Show(p))
	}
}

func TestRightParts(t *testing.T) {
	cell := api.Cell{Name: "a"}
	fence := api.Stmt{Kind: api.Mfence}
	for _, x := range []struct {
		p    api.Prog
		want bool
	}{
		{api.Prog{}, true},
		{api.Prog{Lines: [][]api.Cell{}, Vols: []api.Cell{}, Locks: []api.Cell{}, Threads: []api.Thread{}, Recover: []api.Thread{}, Claims: []api.Claim{}}, true},
		{api.Prog{Lines: [][]api.Cell{{cell}}}, true},
		{api.Prog{Lines: [][]api.Cell{{}}}, false},
		{api.Prog{Lines: [][]api.Cell{nil}}, false},
		{api.Prog{Lines: [][]api.Cell{{cell}, {}, {cell}}}, false},
		{api.Prog{Lines: [][]api.Cell{{cell}, {cell}}, Vols: []api.Cell{cell, cell}, Locks: []api.Cell{cell, cell}}, true},
		{api.Prog{Lines: slices.Repeat([][]api.Cell{slices.Repeat([]api.Cell{cell}, 100)}, 100), Vols: slices.Repeat([]api.Cell{cell}, 100)}, true},
		{api.Prog{Threads: []api.Thread{{Name: "t"}}}, true},
		{api.Prog{Threads: []api.Thread{{}}}, false},
		{api.Prog{Threads: []api.Thread{{Name: "t"}, {}}}, false},
		{api.Prog{Threads: slices.Repeat([]api.Thread{{Name: "t", Regs: slices.Repeat([]string{"r"}, 50)}}, 50)}, true},
		{api.Prog{Recover: []api.Thread{{}}}, true},
		{api.Prog{Recover: []api.Thread{{}, {}}}, false},
		{api.Prog{Recover: []api.Thread{{Name: "t"}}}, false},
		{api.Prog{Recover: []api.Thread{{Regs: []string{"r"}, Body: []api.Stmt{fence}}}}, true},
		{api.Prog{Threads: []api.Thread{{Name: "t", Body: slices.Repeat([]api.Stmt{fence}, 40)}}}, true},
		{api.Prog{Threads: []api.Thread{{Name: "t", Body: slices.Repeat([]api.Stmt{fence}, 41)}}}, false},
		{api.Prog{Recover: []api.Thread{{Body: slices.Repeat([]api.Stmt{fence}, 40)}}}, true},
		{api.Prog{Recover: []api.Thread{{Body: slices.Repeat([]api.Stmt{fence}, 41)}}}, false},
		{api.Prog{Threads: []api.Thread{{Name: "t", Body: []api.Stmt{{Kind: api.Break}}}}}, false},
		{api.Prog{Threads: []api.Thread{{Name: "t", Body: []api.Stmt{{Kind: api.Loop, N: 1, Body: 1}, {Kind: api.Break}}}}}, true},
		{api.Prog{Recover: []api.Thread{{Body: []api.Stmt{{Kind: api.Break}}}}}, false},
		{api.Prog{Recover: []api.Thread{{Body: []api.Stmt{{Kind: api.Loop, N: 1, Body: 1}, {Kind: api.Break}}}}}, true},
		{api.Prog{Recover: []api.Thread{{Body: []api.Stmt{fence, {}}}}}, false},
		{api.Prog{Claims: []api.Claim{{}}}, false},
		{api.Prog{Claims: []api.Claim{{E: num(1, 0)}, {E: variable("a", 4000)}}}, true},
		{api.Prog{Claims: []api.Claim{{E: num(1, 0)}, {E: num(1<<32+1, 0)}}}, false},
		{api.Prog{Claims: []api.Claim{{E: []api.Node{{Op: api.Add}, {Op: api.Num}}}}}, false},
		{api.Prog{Claims: []api.Claim{{E: append(num(1, 0), num(1, 0)...)}}}, false},
	} {
		expectRight(t, x.p, x.want)
	}
	many := api.Prog{Claims: []api.Claim{{E: make([]api.Node, 1000000)}}}
	if prog.Right(many) || prog.Show(many) != "" {
		t.Error("a claim of a million nodes")
	}
}

func TestRightDepth(t *testing.T) {
	for n := range 16 {
		var tower []api.Stmt
		for i := range n {
			tower = append(tower, api.Stmt{Kind: api.Loop, N: 1, Body: n - 1 - i})
		}
		expectRight(t, api.Prog{Threads: []api.Thread{{Name: "t", Body: tower}}}, n <= 12)
		expectRight(t, api.Prog{Recover: []api.Thread{{Body: tower}}}, n <= 12)
		nodes := append(slices.Repeat([]api.Node{{Op: api.Neg}}, n), num(1, 0)...)
		expectRight(t, api.Prog{Claims: []api.Claim{{E: nodes}}}, n <= 11)
		expectRight(t, api.Prog{Recover: []api.Thread{{Body: []api.Stmt{{Kind: api.Check, E: nodes}}}}}, n <= 11)
	}
	for n := 1; n <= 43; n++ {
		nodes := append(slices.Repeat([]api.Node{{Op: api.Num}}, n/2), num(1, 0)...)
		var sum func(l []api.Node) []api.Node
		sum = func(l []api.Node) []api.Node {
			if len(l) == 1 {
				return l
			}
			return slices.Concat([]api.Node{{Op: api.Add}}, sum(l[:len(l)/2]), sum(l[len(l)/2:]))
		}
		if e := sum(nodes); len(e) == n {
			expectRight(t, api.Prog{Claims: []api.Claim{{E: e}}}, n <= 40)
		}
	}
}

// Each name, number and place of a program with all that there can be is changed, alone.
func TestRightEachThing(t *testing.T) {
	p := right(t)
	expectRight(t, p, true)
	for i, name := range values(&p, reflect.String, false) {
		was := name.String()
		if was == "" {
			// Recover has no name, nor have statements and nodes that need none.
			name.SetString("q")
			expectRight(t, p, false)
		} else {
			for _, good := range []string{"z", "_", "lines", "abcdefghijklmnop"} {
				name.SetString(good)
				expectRight(t, p, true)
			}
			for _, bad := range []string{"", "A", "1", "1a", "a b", "a\n", " ", "é", "abcdefghijklmnopq", keptWords[:4], "recover", "always"} {
				name.SetString(bad)
				expectRight(t, p, false)
			}
		}
		name.SetString(was)
		if !prog.Right(p) {
			t.Fatalf("name %d is not put back", i)
		}
	}
	for _, kept := range strings.Fields(keptWords) {
		p.Vols[1].Name = kept
		expectRight(t, p, false)
	}
	p = right(t)
	for i, at := range values(&p, reflect.Int, true) {
		was := at.Int()
		for _, x := range []struct {
			at   int64
			want bool
		}{{math.MinInt64, false}, {-1, false}, {0, true}, {1, true}, {3999, true}, {4000, true}, {4001, false}, {1 << 40, false}, {math.MaxInt64, false}} {
			at.SetInt(x.at)
			if expectRight(t, p, x.want); t.Failed() {
				t.Fatalf("place %d: %d", i, x.at)
			}
		}
		at.SetInt(was)
	}
}

func TestRightNumbers(t *testing.T) {
	for _, x := range []struct {
		n    int
		want bool
	}{{math.MinInt, false}, {-1, false}, {0, true}, {1, true}, {1<<32 - 1, true}, {1 << 32, true}, {1<<32 + 1, false}, {math.MaxInt, false}} {
		cell := api.Cell{Name: "a", N: x.n}
		zero := api.Cell{Name: "a"}
		expectRight(t, api.Prog{Lines: [][]api.Cell{{cell}}}, x.want)
		expectRight(t, api.Prog{Lines: [][]api.Cell{{zero}, {zero, cell, zero}}}, x.want)
		expectRight(t, api.Prog{Vols: []api.Cell{cell}}, x.want)
		expectRight(t, api.Prog{Vols: []api.Cell{zero, cell}}, x.want)
		expectRight(t, api.Prog{Locks: []api.Cell{cell}}, x.n == 0)
		expectRight(t, api.Prog{Locks: []api.Cell{zero, cell}}, x.n == 0)
		expectRight(t, api.Prog{Claims: []api.Claim{{E: num(x.n, 0)}}}, x.want)
		loop := []api.Stmt{{Kind: api.Loop, N: x.n}}
		expectRight(t, api.Prog{Threads: []api.Thread{{Name: "t", Body: loop}}}, x.n == 1)
	}
}

func TestShowByHand(t *testing.T) {
	expectShown(t, "", "")
	expectShown(t, "line a=0,b=00,c=01;", "line a, b, c = 1;\n")
	expectShown(t, "line a;line b;line a,a;", "line a;\nline b;\nline a, a;\n")
	expectShown(t, "vol x=4294967296;vol y;vol z=2,x;", "vol x = 4294967296, y, z = 2, x;\n")
	expectShown(t, "lock m;lock n,k;", "lock m, n, k;\n")
	expectShown(t, "thread t{}", "thread t {\n}\n")
	expectShown(t, "thread t{reg r,s;}thread u{mfence;}", "thread t {\n  reg r, s;\n}\nthread u {\n  mfence;\n}\n")
	expectShown(t, "thread t { reg r; loop 1 { if r { r = 1+2*3; } else { break; } } }", "thread t {\n  reg r;\n  loop 1 {\n    if r {\n      r = 1 + (2 * 3);\n    } else {\n      break;\n    }\n  }\n}\n")
	expectShown(t, "recover{}", "recover {\n}\n")
	expectShown(t, "recover{reg r;load r=a;}", "recover {\n  reg r;\n  load r = a;\n}\n")
	expectShown(t, "recover{sfence;}always(a);always-a<b;", "recover {\n  sfence;\n}\nalways a;\nalways -a < b;\n")
	expectShown(t, "vol x; lock m; always 1; // done", "vol x;\nlock m;\nalways 1;\n")
}

func TestShowWild(t *testing.T) {
	r := rand.New(rand.NewSource(2))
	some := 0
	for range 3000 {
		p, e, _ := prog.Parse(wildText(r))
		if e != api.OK {
			continue
		}
		some++
		if got := prog.Show(p); got != shown(p) {
			t.Fatalf("%s is shown as %q, want %q", told(p), got, shown(p))
		}
	}
	if some < 1500 {
		t.Errorf("%d were read", some)
	}
}

// P5.3: what is the same, and what is bare

func TestSameEachThing(t *testing.T) {
	p, q := must(t, whole), must(t, whole)
	same := func(want bool, what string) {
		t.Helper()
		if prog.Same(p, q) != want || prog.Same(q, p) != want {
			t.Errorf("%s: Same(%s, %s) is not %v", what, told(p), told(q), want)
		}
	}
	same(true, "read twice")
	for i, at := range values(&q, reflect.Int, true) {
		at.SetInt(int64(9000 - 7*i))
		same(true, "a place")
	}
	for _, v := range values(&q, reflect.Int, false) {
		v.SetInt(v.Int() + 1)
		same(false, "a number")
		v.SetInt(v.Int() - 1)
	}
	for _, v := range values(&q, reflect.String, false) {
		was := v.String()
		v.SetString(was + "x")
		same(false, "a name")
		v.SetString(was)
	}
	for _, v := range values(&q, reflect.Slice, false) {
		was := v.Interface()
		v.Set(reflect.Append(v, reflect.Zero(v.Type().Elem())))
		same(false, "a longer list")
		v.Set(reflect.ValueOf(was))
		if v.Len() > 0 {
			v.SetLen(v.Len() - 1)
			same(false, "a shorter list")
			v.Set(reflect.ValueOf(was))
		}
	}
	same(true, "all put back")
}

func TestSameByHand(t *testing.T) {
	a, b := api.Cell{Name: "a"}, api.Cell{Name: "b"}
	for _, x := range []struct {
		p, q api.Prog
		want bool
	}{
		{api.Prog{}, api.Prog{Lines: [][]api.Cell{}, Vols: []api.Cell{}, Locks: []api.Cell{}, Threads: []api.Thread{}, Recover: []api.Thread{}, Claims: []api.Claim{}}, true},
		{api.Prog{Lines: [][]api.Cell{nil}}, api.Prog{Lines: [][]api.Cell{{}}}, true},
		{api.Prog{Lines: [][]api.Cell{nil}}, api.Prog{}, false},
		{api.Prog{Lines: [][]api.Cell{{a, b}}}, api.Prog{Lines: [][]api.Cell{{a}, {b}}}, false},
		{api.Prog{Lines: [][]api.Cell{{a}, {b}}}, api.Prog{Lines: [][]api.Cell{{b}, {a}}}, false},
		{api.Prog{Vols: []api.Cell{a, b}}, api.Prog{Vols: []api.Cell{b, a}}, false},
		{api.Prog{Vols: []api.Cell{a}}, api.Prog{Locks: []api.Cell{a}}, false},
		{api.Prog{Vols: []api.Cell{a}}, api.Prog{Lines: [][]api.Cell{{a}}}, false},
		{api.Prog{Threads: []api.Thread{{}}}, api.Prog{Recover: []api.Thread{{}}}, false},
		{api.Prog{Threads: []api.Thread{{Regs: []string{}, Body: []api.Stmt{}}}}, api.Prog{Threads: []api.Thread{{At: -3}}}, true},
		{api.Prog{Threads: []api.Thread{{Regs: []string{"r", "s"}}}}, api.Prog{Threads: []api.Thread{{Regs: []string{"s", "r"}}}}, false},
		{api.Prog{Threads: []api.Thread{{Body: []api.Stmt{{Kind: 99, E: num(-1, 3), At: -1}}}}}, api.Prog{Threads: []api.Thread{{Body: []api.Stmt{{Kind: 99, E: num(-1, 4)}}}}}, true},
		{api.Prog{Claims: []api.Claim{{}}}, api.Prog{Claims: []api.Claim{{E: []api.Node{}, At: 5}}}, true},
		{api.Prog{Claims: []api.Claim{{E: num(1, 0)}, {E: num(2, 0)}}}, api.Prog{Claims: []api.Claim{{E: num(2, 0)}, {E: num(1, 0)}}}, false},
		// What has not the form can be the same.
		{api.Prog{Vols: []api.Cell{{Name: "loop", N: -7, At: 9}}}, api.Prog{Vols: []api.Cell{{Name: "loop", N: -7}}}, true},
	} {
		if prog.Same(x.p, x.q) != x.want || prog.Same(x.q, x.p) != x.want || !prog.Same(x.p, x.p) {
			t.Errorf("Same(%s, %s) is not %v", told(x.p), told(x.q), x.want)
		}
	}
}

// wrong has not the form anywhere, and lists with room behind them.
func wrong() api.Prog {
	nodes := append(make([]api.Node, 0, 9), api.Node{Op: -1, N: -2, Name: "loop", At: -3}, api.Node{At: 4001})
	body := append(make([]api.Stmt, 0, 9), api.Stmt{Kind: 99, Reg: "1", E: nodes, F: nodes, Body: -9, Else: 7, N: 55, At: 5}, api.Stmt{E: nodes[:1]})
	cells := append(make([]api.Cell, 0, 9), api.Cell{Name: "A", N: -1, At: -1}, api.Cell{})
	t := api.Thread{Name: "if", Regs: append(make([]string, 0, 9), "", "r"), Body: body, At: 1 << 40}
	return api.Prog{Lines: [][]api.Cell{cells, nil, {}, cells[:1]}, Vols: cells, Locks: cells, Threads: []api.Thread{t, {}, t}, Recover: []api.Thread{t, t}, Claims: []api.Claim{{E: nodes, At: 1}, {}, {E: nodes}}}
}

func TestBare(t *testing.T) {
	r := rand.New(rand.NewSource(3))
	programs := []api.Prog{{}, right(t), must(t, whole), wrong(), {Lines: [][]api.Cell{}, Claims: []api.Claim{{At: 7}}}}
	for range 300 {
		if p, e, _ := prog.Parse(wildText(r)); e == api.OK {
			programs = append(programs, p)
		}
	}
	for _, p := range programs {
		before := told(p)
		bare, again := prog.Bare(p), prog.Bare(p)
		if told(p) != before {
			t.Fatalf("Bare changes what it is given: %s, %s", before, told(p))
		}
		if !prog.Same(p, bare) || prog.Right(p) && !prog.Right(bare) {
			t.Errorf("Bare(%s) = %s", told(p), told(bare))
		}
		for _, at := range values(&bare, reflect.Int, true) {
			if at.Int() != 0 {
				t.Errorf("a place in Bare(%s) = %s is not 0", told(p), told(bare))
			}
		}
		if !apart(rooms(&bare, &again)) {
			t.Errorf("two lists of Bare(%s) share memory", told(p))
		}
		given := rooms(&p)
		for _, room := range rooms(&bare) {
			if slices.ContainsFunc(given, func(x memory) bool { return x.from < room.to && room.from < x.to }) {
				t.Errorf("Bare(%s) shares memory with what it is given", told(p))
			}
		}
		spoil(&bare)
		if told(p) != before || !prog.Same(p, again) {
			t.Errorf("what Bare tells of %s shares memory", before)
		}
	}
}

// spoil changes all numbers and names of a program.
func spoil(p *api.Prog) {
	for _, v := range slices.Concat(values(p, reflect.Int, true), values(p, reflect.Int, false)) {
		v.SetInt(-77)
	}
	for _, v := range values(p, reflect.String, false) {
		v.SetString("spoilt")
	}
}

func TestBareByHand(t *testing.T) {
	p := must(t, " line a = 1; vol x; lock m; thread t { reg r; cas r = a, 1, 2; } recover { mfence; } always a;")
	want := api.Prog{
		Lines: [][]api.Cell{{{Name: "a", N: 1}}}, Vols: []api.Cell{{Name: "x"}}, Locks: []api.Cell{{Name: "m"}},
		Threads: []api.Thread{{Name: "t", Regs: []string{"r"}, Body: []api.Stmt{{Kind: api.Cas, Reg: "r", Name: "a", E: num(1, 0), F: num(2, 0)}}}},
		Recover: []api.Thread{{Body: []api.Stmt{{Kind: api.Mfence}}}}, Claims: []api.Claim{{E: variable("a", 0)}},
	}
	if got := prog.Bare(p); told(got) != told(want) {
		t.Errorf("Bare = %s, want %s", told(got), told(want))
	}
}

// P5.4: there and back

func TestReadHasTheForm(t *testing.T) {
	r := rand.New(rand.NewSource(4))
	some := 0
	for range 4000 {
		s := spread(r, changed(r, wildText(r)))
		p, e, _ := prog.Parse(s)
		if e != api.OK {
			continue
		}
		if !prog.Right(p) {
			t.Fatalf("%q is read as %s, that has not the form", s, told(p))
		}
		back := prog.Show(p)
		if len(back) > api.MaxText {
			continue
		}
		some++
		q, e, at := prog.Parse(back)
		if e != api.OK || at != 0 || !prog.Same(p, q) || told(prog.Bare(p)) != told(prog.Bare(q)) || prog.Show(q) != back {
			t.Fatalf("%q, shown as %q, is read as %s, %d, %d", s, back, told(q), int(e), at)
		}
	}
	if some < 1000 {
		t.Errorf("%d were read", some)
	}
}

// What has the form is shown, and read, whatever its places.
func TestShownIsRead(t *testing.T) {
	r := rand.New(rand.NewSource(5))
	some := 0
	for range 3000 {
		p, e, _ := prog.Parse(wildText(r))
		if e != api.OK {
			continue
		}
		for _, at := range values(&p, reflect.Int, true) {
			at.SetInt(int64(r.Intn(4001)))
		}
		if i := r.Intn(4); i < len(p.Threads) {
			p.Threads[i].Regs = append(p.Threads[i].Regs, strings.Fields("q q abcdefghijklmnop")...)
		}
		for i := range p.Vols {
			p.Vols[i].N = r.Intn(1<<32 + 1)
		}
		back := prog.Show(p)
		if len(back) > api.MaxText {
			continue
		}
		some++
		if q, e, at := prog.Parse(back); e != api.OK || at != 0 || !prog.Same(p, q) {
			t.Fatalf("%s, shown as %q, is read as %s, %d, %d", told(p), back, told(q), int(e), at)
		}
	}
	if some < 1500 {
		t.Errorf("%d were read", some)
	}
}

// R3, R4: memory

func TestAnswersAreNew(t *testing.T) {
	r := rand.New(rand.NewSource(6))
	for range 300 {
		s := wildText(r)
		p, _, _ := prog.Parse(s)
		q, _, _ := prog.Parse(s)
		before := told(q)
		if before != told(p) || !apart(rooms(&p, &q)) {
			t.Fatalf("%q: two answers differ, or two lists share memory: %s, %s", s, told(p), before)
		}
		spoil(&p)
		if told(q) != before {
			t.Fatalf("%q: two answers share memory", s)
		}
	}
}

// withRoom is all of a program, and all that stands in the room behind its lists.
func withRoom(p *api.Prog) string {
	s := told(*p)
	for _, v := range values(p, reflect.Slice, false) {
		s += fmt.Sprintf(" %+v", v.Slice(0, v.Cap()))
	}
	return s
}

func TestArgumentsStay(t *testing.T) {
	for _, p := range []api.Prog{wrong(), right(t), must(t, whole)} {
		for _, v := range values(&p, reflect.Slice, false) {
			for i := v.Len(); i < v.Cap(); i++ {
				walk(v.Slice(0, v.Cap()).Index(i), "", func(v reflect.Value, _ string) {
					switch v.Kind() {
					case reflect.Int:
						v.SetInt(5)
					case reflect.String:
						v.SetString("mark")
					}
				})
			}
		}
		before := withRoom(&p)
		prog.Right(p)
		prog.Show(p)
		prog.Same(p, p)
		prog.Bare(p)
		if after := withRoom(&p); after != before || !strings.Contains(before, "mark") {
			t.Errorf("what is handed in is changed: %s, %s", before, after)
		}
	}
}
