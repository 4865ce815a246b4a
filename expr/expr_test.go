package expr_test

import (
	"math"
	"math/rand"
	"slices"
	"strings"
	"testing"

	"leadline/api"
	"leadline/expr"
	"leadline/scan"
)

func tokens(t *testing.T, s string) []api.Token {
	t.Helper()
	l, e, at := scan.Scan(s)
	if e != api.OK {
		t.Fatalf("Scan(%q): %d, %d", s, int(e), at)
	}
	return l
}

func num(n, at int) api.Node { return api.Node{Op: api.Num, N: n, At: at} }

func name(s string, at int) api.Node { return api.Node{Op: api.Var, Name: s, At: at} }

func op(kind, at int) api.Node { return api.Node{Op: kind, At: at} }

func expectNodes(t *testing.T, l []api.Token, i int, to int, want ...api.Node) {
	t.Helper()
	if nodes, behind, e, at := expr.Parse(l, i); e != api.OK || at != 0 || behind != to || !slices.Equal(nodes, want) {
		t.Errorf("Parse(%q, %d) = %v, %d, %d, %d, want %v, %d", scan.Show(l), i, nodes, behind, int(e), at, want, to)
	}
}

func expectError(t *testing.T, l []api.Token, i int, want api.Errno, place int) {
	t.Helper()
	if nodes, to, e, at := expr.Parse(l, i); len(nodes) != 0 || to != 0 || e != want || at != place {
		t.Errorf("Parse(%q, %d) = %v, %d, %d, %d, want %d, %d", scan.Show(l), i, nodes, to, int(e), at, int(want), place)
	}
}

// expectShown holds what is read of a text, all of whose tokens but some are the expression's, against what is shown of it.
func expectShown(t *testing.T, s, want string, left int) {
	t.Helper()
	l := tokens(t, s)
	nodes, to, e, at := expr.Parse(l, 0)
	if e != api.OK || at != 0 || to != len(l)-left || expr.Show(nodes) != want {
		t.Errorf("%q is read as %q, up to %d of %d, %d, %d, want %q", s, expr.Show(nodes), to, len(l), int(e), at, want)
	}
}

func expectWrong(t *testing.T, s string, want api.Errno, place int) {
	t.Helper()
	expectError(t, tokens(t, s), 0, want, place)
}

func holdParse(t *testing.T, l []api.Token, i int) {
	t.Helper()
	nodes, to, e, at := expr.Parse(l, i)
	wantNodes, wantTo, wantE, wantAt := modelParse(l, i)
	if to != wantTo || e != wantE || at != wantAt || !slices.Equal(nodes, wantNodes) {
		t.Fatalf("Parse(%v, %d) = %v, %d, %d, %d, want %v, %d, %d, %d", l, i, nodes, to, int(e), at, wantNodes, wantTo, int(wantE), wantAt)
	}
}

// P3.1: what is read

func TestParseByHand(t *testing.T) {
	expectNodes(t, tokens(t, "a"), 0, 1, name("a", 0))
	expectNodes(t, tokens(t, " 007"), 0, 1, num(7, 1))
	expectNodes(t, tokens(t, "a + b * 2"), 0, 5, op(api.Add, 2), name("a", 0), op(api.Mul, 6), name("b", 4), num(2, 8))
	expectNodes(t, tokens(t, "-(a + b) * c"), 0, 8, op(api.Mul, 9), op(api.Neg, 0), op(api.Add, 4), name("a", 2), name("b", 6), name("c", 11))
	expectNodes(t, tokens(t, "!a == -1"), 0, 5, op(api.Eq, 3), op(api.Not, 0), name("a", 1), op(api.Neg, 6), num(1, 7))
	expectNodes(t, tokens(t, "( ( a ) )"), 0, 5, name("a", 4))
	expectNodes(t, tokens(t, "(a)-(b)"), 0, 7, op(api.Sub, 3), name("a", 1), name("b", 5))
	expectNodes(t, tokens(t, "a - -b"), 0, 4, op(api.Sub, 2), name("a", 0), op(api.Neg, 4), name("b", 5))
	expectNodes(t, tokens(t, "abcdefghijklmnop"), 0, 1, name("abcdefghijklmnop", 0))
	expectNodes(t, tokens(t, "4294967296"), 0, 1, num(1<<32, 0))
	expectNodes(t, tokens(t, "0"), 0, 1, num(0, 0))
}

func TestParseEachSign(t *testing.T) {
	for kind, text := range signOf() {
		if operands(kind) == 2 {
			expectNodes(t, tokens(t, "a "+text+" 1"), 0, 3, op(kind, 2), name("a", 0), num(1, 3+len(text)))
		} else {
			expectNodes(t, tokens(t, text+"a"), 0, 2, op(kind, 0), name("a", 1))
		}
	}
}

// Each two signs between three names: the one that binds more is done first, of two that bind alike the left one, and two that compare do not stand behind each other.
func TestParseTwoSigns(t *testing.T) {
	for left, one := range signOf() {
		for right, two := range signOf() {
			if operands(left) != 2 || operands(right) != 2 {
				continue
			}
			s := "a " + one + " b " + two + " c"
			switch {
			case bind(left) == 3 && bind(right) == 3:
				expectShown(t, s, "a "+one+" b", 2)
				expectWrong(t, "("+s+")", api.ErrToken, 6+len(one))
			case bind(left) < bind(right):
				expectShown(t, s, "a "+one+" (b "+two+" c)", 0)
			default:
				expectShown(t, s, "(a "+one+" b) "+two+" c", 0)
			}
			expectShown(t, "a "+one+" (b "+two+" c)", "a "+one+" (b "+two+" c)", 0)
			expectShown(t, "(a "+one+" b) "+two+" c", "(a "+one+" b) "+two+" c", 0)
		}
	}
}

func TestParseOneOperand(t *testing.T) {
	for kind, text := range signOf() {
		if operands(kind) != 2 {
			continue
		}
		for _, one := range []string{"!", "-"} {
			expectShown(t, one+"a "+text+" b", one+"a "+text+" b", 0)
			expectShown(t, "a "+text+" "+one+"b", "a "+text+" "+one+"b", 0)
			expectShown(t, one+"(a "+text+" b)", one+"(a "+text+" b)", 0)
			expectShown(t, one+"(a)"+text+"b", one+"a "+text+" b", 0)
		}
	}
	expectShown(t, "!-!a", "!-!a", 0)
	expectShown(t, "-(-(a))", "--a", 0)
	expectShown(t, "- - 1", "--1", 0)
}

func TestParseCompareOnce(t *testing.T) {
	expectShown(t, "a < b && c < d || e == f", "((a < b) && (c < d)) || (e == f)", 0)
	expectShown(t, "a + b < c * d == e", "(a + b) < (c * d)", 2)
	expectShown(t, "a == b != c + d", "a == b", 4)
	expectShown(t, "a < b < c && d", "a < b", 4)
	expectShown(t, "a && b < c < d", "a && (b < c)", 2)
	expectShown(t, "(a < b) < c", "(a < b) < c", 0)
	expectShown(t, "!a < b", "!a < b", 0)
}

func TestParseIsLongest(t *testing.T) {
	for _, behind := range []string{";", ",", "{", "}", ")", "=", "!", "b", "1", "loop", "("} {
		expectShown(t, "a + b "+behind, "a + b", 1)
		expectShown(t, "(a) "+behind, "a", 1)
	}
	expectShown(t, "a ! b", "a", 2)
	expectShown(t, "a = = b", "a", 3)
	expectShown(t, "a - b ; c - d", "a - b", 4)
}

func TestParseFromAPlace(t *testing.T) {
	l := tokens(t, "check ( a + b ) * c ; 7")
	expectNodes(t, l, 1, 8, op(api.Mul, 16), op(api.Add, 10), name("a", 8), name("b", 12), name("c", 18))
	expectNodes(t, l, 2, 5, op(api.Add, 10), name("a", 8), name("b", 12))
	expectNodes(t, l, 4, 5, name("b", 12))
	expectNodes(t, l, 9, 10, num(7, 22))
	expectError(t, l, 0, api.ErrToken, 0)
	expectError(t, l, 3, api.ErrToken, 10)
	expectError(t, l, 5, api.ErrToken, 14)
	expectError(t, l, 6, api.ErrToken, 16)
	expectError(t, l, 8, api.ErrToken, 20)
	expectError(t, l, 10, api.ErrEnd, 23)
	expectError(t, l, 11, api.ErrEnd, 23)
	expectError(t, l, math.MaxInt, api.ErrEnd, 23)
}

// P3.1: what is wrong

func TestParseBelowZero(t *testing.T) {
	for _, l := range [][]api.Token{nil, {}, tokens(t, "a"), tokens(t, "  )"), tokens(t, " loop")} {
		for _, i := range []int{-1, -2, -4000, math.MinInt} {
			expectError(t, l, i, api.ErrArg, 0)
		}
	}
}

func TestParseEndsTooEarly(t *testing.T) {
	expectWrong(t, "", api.ErrEnd, 0)
	expectError(t, nil, 5, api.ErrEnd, 0)
	expectWrong(t, "(", api.ErrEnd, 1)
	expectWrong(t, "  !  ", api.ErrEnd, 3)
	expectWrong(t, "-", api.ErrEnd, 1)
	expectWrong(t, "(abc", api.ErrEnd, 4)
	expectWrong(t, "((a)", api.ErrEnd, 4)
	expectWrong(t, "(a + b", api.ErrEnd, 6)
	for kind, text := range signOf() {
		if operands(kind) == 2 {
			expectWrong(t, "ab "+text, api.ErrEnd, 3+len(text))
			expectWrong(t, "(ab "+text+" ", api.ErrEnd, 4+len(text))
			expectWrong(t, "ab "+text+"!", api.ErrEnd, 4+len(text))
		}
	}
}

func TestParseOtherTokens(t *testing.T) {
	for _, s := range strings.Fields(") { } ; , = == != < <= + * / % && || loop line always if") {
		expectWrong(t, s, api.ErrToken, 0)
		expectWrong(t, "( "+s, api.ErrToken, 2)
		expectWrong(t, "! "+s, api.ErrToken, 2)
		expectWrong(t, "a + "+s+" a", api.ErrToken, 4)
	}
	for _, s := range strings.Fields("{ } ; , = ! ( a 1 loop") {
		expectWrong(t, "(a "+s, api.ErrToken, 3)
		expectWrong(t, "(a + b "+s+")", api.ErrToken, 7)
	}
	expectWrong(t, "()", api.ErrToken, 1)
	expectWrong(t, "a <  < b", api.ErrToken, 5)
	for _, s := range strings.Fields("line vol lock thread reg load store cas flush opt sfence mfence take give if else loop break check recover always") {
		expectWrong(t, s, api.ErrToken, 0)
		expectWrong(t, "a - "+s, api.ErrToken, 4)
		expectShown(t, "a "+s, "a", 1)
		expectShown(t, s+"s", s+"s", 0)
	}
}

func TestParseLongWords(t *testing.T) {
	for n := 1; n <= 40; n++ {
		text := strings.Repeat("x", n)
		l := []api.Token{{Kind: api.Word, Text: text, At: 9}}
		if n <= 16 {
			expectNodes(t, l, 0, 1, name(text, 9))
		} else {
			expectError(t, l, 0, api.ErrToken, 9)
		}
	}
}

// Tokens that no text has: a sign is what scan.Is tells, a name what is a Word and a name, a Number what is one.
func TestParseTokensOfNoText(t *testing.T) {
	a := api.Token{Kind: api.Word, Text: "a", At: 1}
	for kind, text := range signOf() {
		for tokenKind := -1; tokenKind <= 5; tokenKind++ {
			sign := api.Token{Kind: tokenKind, Text: text, N: 3, At: 5}
			is := tokenKind == api.Word || tokenKind == api.Sign
			switch {
			case is && operands(kind) == 2:
				expectNodes(t, []api.Token{a, sign, a}, 0, 3, op(kind, 5), name("a", 1), name("a", 1))
			case is:
				expectNodes(t, []api.Token{sign, a}, 0, 2, op(kind, 5), name("a", 1))
			case tokenKind == api.Number:
				expectNodes(t, []api.Token{sign, a}, 0, 1, num(3, 5))
				expectNodes(t, []api.Token{a, sign, a}, 0, 1, name("a", 1))
			default:
				expectError(t, []api.Token{sign, a}, 0, api.ErrToken, 5)
				expectNodes(t, []api.Token{a, sign, a}, 0, 1, name("a", 1))
			}
		}
	}
	for kind := -1; kind <= 5; kind++ {
		open, shut := api.Token{Kind: kind, Text: "(", N: 8, At: 11}, api.Token{Kind: kind, Text: ")", At: 12}
		plain := []api.Token{{Kind: api.Sign, Text: "(", At: 4}, a, shut}
		switch kind {
		case api.Word, api.Sign:
			expectNodes(t, []api.Token{open, a, shut}, 0, 3, name("a", 1))
			expectNodes(t, plain, 0, 3, name("a", 1))
			expectError(t, []api.Token{open, a}, 0, api.ErrEnd, 2)
		case api.Number:
			expectNodes(t, []api.Token{open, a, shut}, 0, 1, num(8, 11))
			expectError(t, plain, 0, api.ErrToken, 12)
		default:
			expectError(t, []api.Token{open, a, shut}, 0, api.ErrToken, 11)
			expectError(t, plain, 0, api.ErrToken, 12)
		}
	}
}

func TestParseNamesOfNoText(t *testing.T) {
	for kind := -1; kind <= 5; kind++ {
		l := []api.Token{{Kind: kind, Text: "a", N: 6, At: 2}}
		switch kind {
		case api.Word:
			expectNodes(t, l, 0, 1, name("a", 2))
		case api.Number:
			expectNodes(t, l, 0, 1, num(6, 2))
		default:
			expectError(t, l, 0, api.ErrToken, 2)
		}
	}
	for _, text := range []string{"", "A", "1", "a b", " a", "a\x00", "é", "=", ";", "a+"} {
		expectError(t, []api.Token{{Kind: api.Word, Text: text, At: 2}}, 0, api.ErrToken, 2)
		expectError(t, []api.Token{{Kind: api.Sign, Text: text, At: 2}}, 0, api.ErrToken, 2)
		expectNodes(t, []api.Token{{Kind: api.Number, Text: text, At: 2, N: 1}}, 0, 1, num(1, 2))
	}
	// A name's number is none of its node's.
	expectNodes(t, []api.Token{{Kind: api.Word, Text: "a", N: 5}}, 0, 1, name("a", 0))
}

// A node has its token's number, and its place, whatever these are.
func TestParseNumbersAndPlacesOfNoText(t *testing.T) {
	for _, n := range []int{math.MinInt, -1, 0, 1 << 32, 1<<32 + 1, math.MaxInt} {
		expectNodes(t, []api.Token{{Kind: api.Number, Text: "1", N: n}}, 0, 1, num(n, 0))
	}
	for _, at := range []int{-7, 0, 4000, 4001, 1 << 40} {
		l := []api.Token{{Kind: api.Sign, Text: "-", At: at}, {Kind: api.Word, Text: "a", At: at + 1}, {Kind: api.Sign, Text: "<", At: at + 2}, {Kind: api.Number, Text: "10", N: 10, At: at + 3}}
		expectNodes(t, l, 0, 4, op(api.Lt, at+2), op(api.Neg, at), name("a", at+1), num(10, at+3))
		expectError(t, l, 2, api.ErrToken, at+2)
		expectError(t, l, 4, api.ErrEnd, at+5)
		expectError(t, l[:1], 0, api.ErrEnd, at+1)
	}
}

func TestParseWithinTwelve(t *testing.T) {
	for _, x := range []struct{ one, back string }{{"(", ")"}, {"!(", ")"}, {"-", ""}, {"!", ""}, {"(-", ")"}} {
		for n := 0; n <= 14; n++ {
			ahead := strings.Repeat(x.one, n)
			l := tokens(t, ahead+"a"+strings.Repeat(x.back, n))
			signs := strings.Count(ahead, "!") + strings.Count(ahead, "-")
			switch {
			case len(ahead) > 12:
				expectError(t, l, 0, api.ErrDeep, 12)
			case signs > 11:
				expectError(t, l, 0, api.ErrDeep, 0)
			default:
				want := append(slices.Repeat([]string{"!"}, strings.Count(ahead, "!")), slices.Repeat([]string{"-"}, strings.Count(ahead, "-"))...)
				if nodes, to, e, _ := expr.Parse(l, 0); e != api.OK || to != len(l) || len(nodes) != len(want)+1 || expr.Show(nodes) != strings.Join(want, "")+"a" {
					t.Errorf("%q: %v, %d, %d", scan.Show(l), nodes, to, int(e))
				}
			}
		}
	}
	twelve := strings.Repeat("(", 12)
	expectWrong(t, twelve+"(", api.ErrDeep, 12)
	expectWrong(t, twelve+"!", api.ErrDeep, 12)
	expectWrong(t, twelve+"-", api.ErrDeep, 12)
	expectWrong(t, twelve, api.ErrEnd, 12)
	expectWrong(t, twelve+")", api.ErrToken, 12)
	expectWrong(t, twelve+"a - - b", api.ErrDeep, 16)
	expectWrong(t, twelve+"a + (", api.ErrDeep, 16)
	expectShown(t, twelve+"a - b"+strings.Repeat(")", 12), "a - b", 0)
	// What is closed is within nothing any more.
	expectShown(t, twelve+"a"+strings.Repeat(")", 12)+"-"+twelve+"b"+strings.Repeat(")", 12), "a - b", 0)
	expectShown(t, "a == !!!!!!!!!b && -!!!!!!!!!c", "(a == !!!!!!!!!b) && -!!!!!!!!!c", 0)
	expectShown(t, strings.Repeat("(", 11)+"(a)+(b)"+strings.Repeat(")", 11), "a + b", 0)
	expectWrong(t, strings.Repeat("(", 11)+"(a)+((b))"+strings.Repeat(")", 11), api.ErrDeep, 16)
}

// leftward is what is shown of a name, and so many more behind the same sign.
func leftward(n int, sign string) string {
	s := "a"
	for i := range n {
		if i > 0 {
			s = "(" + s + ")"
		}
		s += " " + sign + " a"
	}
	return s
}

func TestParseDepth(t *testing.T) {
	for _, sign := range []string{"+", "-", "*", "&&", "||"} {
		for n := range 20 {
			s := strings.Repeat("a "+sign+" ", n) + "a"
			if n <= 11 {
				expectShown(t, " "+s+" ; (", leftward(n, sign), 2)
			} else {
				expectWrong(t, "  "+s+" ; (", api.ErrDeep, 2)
			}
		}
	}
	// Of the operands the deepest one counts, and brackets do not.
	eleven := strings.Repeat("a * ", 10) + "a"
	shown := leftward(10, "*")
	expectShown(t, eleven+" + b", "("+shown+") + b", 0)
	expectShown(t, "b + "+eleven, "b + ("+shown+")", 0)
	expectShown(t, "((-("+eleven+")))", "-("+shown+")", 0)
	expectWrong(t, " b + "+eleven+" * a", api.ErrDeep, 1)
	expectWrong(t, " "+eleven+" * a - b", api.ErrDeep, 1)
	expectWrong(t, " -("+eleven+" * a)", api.ErrDeep, 1)
	expectWrong(t, " - -("+eleven+")", api.ErrDeep, 1)
	expectError(t, tokens(t, "check "+eleven+" * a * a;"), 1, api.ErrDeep, 6)
}

// balanced is a sum of so many names in which brackets keep the depth small.
func balanced(leaves int) string {
	if leaves == 1 {
		return "a"
	}
	return "(" + balanced(leaves/2) + "+" + balanced(leaves-leaves/2) + ")"
}

func TestParseNodes(t *testing.T) {
	for leaves := 1; leaves <= 30; leaves++ {
		for minus := range 3 {
			s := strings.Repeat("-", minus) + balanced(leaves)
			l := tokens(t, " "+s)
			many := 2*leaves - 1 + minus
			if many > 40 {
				expectError(t, l, 0, api.ErrBig, 1)
				expectError(t, append(tokens(t, "check"), l...), 1, api.ErrBig, 1)
				continue
			}
			if nodes, to, e, at := expr.Parse(l, 0); len(nodes) != many || to != len(l) || e != api.OK || at != 0 {
				t.Errorf("%q: %d nodes, %d, %d, %d", s, len(nodes), to, int(e), at)
			}
		}
	}
}

func TestParseFirstError(t *testing.T) {
	deep, big := strings.Repeat("a + ", 12)+"a", balanced(21)
	expectWrong(t, " "+strings.Repeat("a + ", 30)+"a", api.ErrDeep, 1)  // and too many
	expectWrong(t, " "+deep+" * "+big, api.ErrDeep, 1)                  // and too many
	expectWrong(t, deep+" + ;", api.ErrToken, 52)                       // and too deep
	expectWrong(t, deep+" +", api.ErrEnd, 51)                           // and too deep
	expectWrong(t, "("+big+" ;", api.ErrToken, 2+len(big))              // and too many
	expectWrong(t, "("+big, api.ErrEnd, 1+len(big))                     // and too many
	expectWrong(t, deep+" + "+strings.Repeat("(", 13), api.ErrDeep, 64) // and too deep in all
	expectWrong(t, deep+" + ; + "+strings.Repeat("(", 13), api.ErrToken, 52)
	expectWrong(t, "a + ; loop )", api.ErrToken, 4)
	expectError(t, tokens(t, deep), -1, api.ErrArg, 0)
	expectWrong(t, strings.Repeat("(", 13)+";", api.ErrDeep, 12)
}

func TestParseLongLists(t *testing.T) {
	const many = 200000
	for _, x := range []struct {
		behind string
		want   api.Errno
		at     int
	}{{"", api.ErrDeep, 0}, {" +", api.ErrEnd, 2 * many}, {" + )", api.ErrToken, 2 * many}} {
		l := []api.Token{{Kind: api.Word, Text: "a", At: 0}}
		for i := 1; i < many; i++ {
			l = append(l, api.Token{Kind: api.Sign, Text: "+", At: 2*i - 1}, api.Token{Kind: api.Word, Text: "a", At: 2 * i})
		}
		for i, token := range tokens(t, x.behind) {
			token.At = 2*many - 1 + i
			l = append(l, token)
		}
		expectError(t, l, 0, x.want, x.at)
	}
	for _, text := range []string{"(", "!", "-"} {
		expectError(t, slices.Repeat([]api.Token{{Kind: api.Sign, Text: text, At: 3}}, many), 0, api.ErrDeep, 3)
	}
}

func TestParseShortLists(t *testing.T) {
	alphabet := tokens(t, "a 1 ( ) ! - + * < && || ; loop")
	var each func(l []api.Token, left int)
	each = func(l []api.Token, left int) {
		for i := -1; i <= min(len(l), 1); i++ {
			holdParse(t, l, i)
		}
		if left == 0 {
			return
		}
		for _, token := range alphabet {
			token.At = 3*len(l) + 1
			each(append(l, token), left-1)
		}
	}
	each(nil, 5)
}

func wildTree(r *rand.Rand, leaves int) tree {
	node := api.Node{Op: api.Var, Name: []string{"a", "b", "c", "loops", "_9", "abcdefghijklmnop"}[r.Intn(6)]}
	switch {
	case r.Intn(5) == 0:
		return tree{api.Node{Op: api.Neg + r.Intn(2)}, []tree{wildTree(r, leaves)}}
	case leaves > 1:
		left := 1 + r.Intn(leaves-1)
		return tree{api.Node{Op: api.Add + r.Intn(api.OpKinds-api.Add)}, []tree{wildTree(r, left), wildTree(r, leaves-left)}}
	case r.Intn(3) == 0:
		node = api.Node{Op: api.Num, N: []int{0, 1, 10, 1<<32 - 1, 1 << 32}[r.Intn(5)]}
	}
	return tree{node: node}
}

// wildText tells a tree with the brackets that it needs, or with some more.
func wildText(r *rand.Rand, t tree, least int) string {
	var s string
	mine := bind(t.node.Op)
	switch len(t.kids) {
	case 0:
		s, mine = t.show(), 7
	case 1:
		s = signOf()[t.node.Op] + wildText(r, t.kids[0], 6)
	case 2:
		left := mine
		if mine == 3 {
			left = 4
		}
		s = wildText(r, t.kids[0], left) + " " + signOf()[t.node.Op] + " " + wildText(r, t.kids[1], mine+1)
	}
	if mine < least || r.Intn(20) == 0 {
		return "(" + s + ")"
	}
	return s
}

func wildTokens(t *testing.T, r *rand.Rand) []api.Token {
	others := tokens(t, "a b 1 0 ( ) ! - + * / % == != < <= && || ; loop")
	l := tokens(t, wildText(r, wildTree(r, 1+r.Intn(24)), 0))
	for range r.Intn(3) {
		i := r.Intn(len(l) + 1)
		switch r.Intn(4) {
		case 0:
			l = slices.Insert(l, i, others[r.Intn(len(others))])
		case 1:
			l = l[:i]
		case 2:
			l = slices.Insert(l, i, slices.Repeat([]api.Token{others[4+r.Intn(4)]}, r.Intn(14))...)
		case 3:
			if i < len(l) {
				l[i].Kind = r.Intn(6) - 1
			}
		}
	}
	for i := range l {
		l[i].At = i*20 + r.Intn(9)
	}
	return l
}

func TestParseWildLists(t *testing.T) {
	r := rand.New(rand.NewSource(3))
	got := map[api.Errno]int{}
	for range 20000 {
		l := wildTokens(t, r)
		i := r.Intn(len(l) + 1)
		if r.Intn(3) > 0 {
			i = 0
		}
		holdParse(t, l, i)
		_, _, e, _ := expr.Parse(l, i)
		got[e]++
	}
	for _, e := range []api.Errno{api.OK, api.ErrToken, api.ErrEnd, api.ErrDeep, api.ErrBig} {
		if got[e] < 200 {
			t.Errorf("the lists are not wild enough: %v", got)
		}
	}
}

// P3.2, P3.3: nodes that are not of a text

func holdNodes(t *testing.T, l []api.Node) {
	t.Helper()
	right := modelRight(l)
	if expr.Right(l) != right {
		t.Fatalf("Right(%v) is not %v", l, right)
	}
	shown, depth := "", 0
	var names []string
	if right {
		tr, _, _ := grow(l)
		shown, depth = tr.show(), tr.depth()
		for _, node := range l {
			if node.Name != "" && !slices.Contains(names, node.Name) {
				names = append(names, node.Name)
			}
		}
	}
	if s := expr.Show(l); s != shown {
		t.Fatalf("Show(%v) = %q, want %q", l, s, shown)
	}
	if d := expr.Depth(l); d != depth {
		t.Fatalf("Depth(%v) = %d, want %d", l, d, depth)
	}
	if n := expr.Names(l); !slices.Equal(n, names) {
		t.Fatalf("Names(%v) = %q, want %q", l, n, names)
	}
	for i := -2; i <= len(l)+2; i++ {
		if k := expr.End(l, i); k != modelEnd(l, i) {
			t.Fatalf("End(%v, %d) = %d, want %d", l, i, k, modelEnd(l, i))
		}
	}
}

func TestNodesShortLists(t *testing.T) {
	var each func(l []api.Node, left int)
	each = func(l []api.Node, left int) {
		holdNodes(t, l)
		if left == 0 {
			return
		}
		for kind := -1; kind <= api.OpKinds; kind++ {
			node := api.Node{Op: kind, At: len(l)}
			if kind == api.Var {
				node.Name = "x"
			}
			each(append(l, node), left-1)
		}
	}
	each(nil, 4)
}

func TestNodesWildLists(t *testing.T) {
	r := rand.New(rand.NewSource(4))
	rights := 0
	for range 20000 {
		l := wildTree(r, 1+r.Intn(24)).flat()
		for i := range l {
			l[i].At = r.Intn(4001)
		}
		for range r.Intn(3) {
			node := &l[r.Intn(len(l))]
			switch r.Intn(5) {
			case 0:
				node.Op = r.Intn(api.OpKinds+2) - 1
			case 1:
				node.N = []int{-1, 0, 1, 1 << 32, 1<<32 + 1}[r.Intn(5)]
			case 2:
				node.Name = []string{"", "a", "loop", "A", "abcdefghijklmnopq"}[r.Intn(5)]
			case 3:
				node.At = []int{-1, 0, 4000, 4001}[r.Intn(4)]
			case 4:
				l = l[:1+r.Intn(len(l))]
			}
		}
		holdNodes(t, l)
		if expr.Right(l) {
			rights++
		}
	}
	if rights < 2000 || rights > 18000 {
		t.Errorf("%d lists of 20000 are right", rights)
	}
}

func TestRightByHand(t *testing.T) {
	for _, x := range []struct {
		l    []api.Node
		want bool
	}{
		{nil, false},
		{[]api.Node{}, false},
		{[]api.Node{num(0, 0)}, true},
		{[]api.Node{num(1<<32, 4000)}, true},
		{[]api.Node{num(1<<32+1, 0)}, false},
		{[]api.Node{num(math.MaxInt, 0)}, false},
		{[]api.Node{num(-1, 0)}, false},
		{[]api.Node{num(math.MinInt, 0)}, false},
		{[]api.Node{num(0, 4001)}, false},
		{[]api.Node{num(0, -1)}, false},
		{[]api.Node{name("a", 4000)}, true},
		{[]api.Node{name("a", 4001)}, false},
		{[]api.Node{name("a", -1)}, false},
		{[]api.Node{name("abcdefghijklmnop", 0)}, true},
		{[]api.Node{name("abcdefghijklmnopq", 0)}, false},
		{[]api.Node{name("", 0)}, false},
		{[]api.Node{name("always", 0)}, false},
		{[]api.Node{name("1", 0)}, false},
		{[]api.Node{{Op: api.Var, Name: "a", N: 1}}, false},
		{[]api.Node{{Op: api.Num, Name: "a"}}, false},
		{[]api.Node{{}}, false},
		{[]api.Node{{Op: -1}}, false},
		{[]api.Node{{Op: api.OpKinds}}, false},
		{[]api.Node{op(api.Neg, 0)}, false},
		{[]api.Node{op(api.Add, 0), num(1, 0)}, false},
		{[]api.Node{num(1, 0), num(1, 0)}, false},
		{[]api.Node{op(api.Neg, 0), num(1, 0), num(1, 0)}, false},
		{[]api.Node{num(1, 0), op(api.Neg, 0)}, false},
		{[]api.Node{num(1, 0), {Op: 99}}, false},
	} {
		if expr.Right(x.l) != x.want {
			t.Errorf("Right(%v) is not %v", x.l, x.want)
		}
		holdNodes(t, x.l)
	}
	for kind := api.Neg; kind < api.OpKinds; kind++ {
		for _, x := range []struct {
			node api.Node
			want bool
		}{
			{op(kind, 0), true}, {op(kind, 4000), true}, {op(kind, 4001), false}, {op(kind, -1), false},
			{api.Node{Op: kind, N: 1}, false}, {api.Node{Op: kind, N: -1}, false}, {api.Node{Op: kind, Name: "a"}, false},
		} {
			l := []api.Node{x.node, num(1, 0), num(2, 0)}[:1+operands(kind)]
			if expr.Right(l) != x.want {
				t.Errorf("Right(%v) is not %v", l, x.want)
			}
			if at := append([]api.Node{op(api.Not, 0)}, l...); expr.Right(at) != x.want {
				t.Errorf("Right(%v) is not %v", at, x.want)
			}
		}
	}
}

func TestRightAtTheLimits(t *testing.T) {
	for n := range 16 {
		chain := append(slices.Repeat([]api.Node{op(api.Not, 0)}, n), num(1, 0))
		left := append(slices.Repeat([]api.Node{op(api.Sub, 0)}, n), slices.Repeat([]api.Node{num(1, 0)}, n+1)...)
		right := append(slices.Repeat([]api.Node{op(api.Sub, 0), num(1, 0)}, n), num(1, 0))
		for _, l := range [][]api.Node{chain, left, right} {
			if expr.Right(l) != (n <= 11) || n <= 11 && expr.Depth(l) != n+1 || n > 11 && expr.Depth(l) != 0 {
				t.Errorf("%v: %v, %d", l, expr.Right(l), expr.Depth(l))
			}
			holdNodes(t, l)
		}
	}
	for leaves := 10; leaves <= 30; leaves++ {
		for minus := range 3 {
			l := slices.Repeat([]api.Node{op(api.Neg, 0)}, minus)
			for _, token := range tokens(t, balanced(leaves)) {
				if token.Text == "a" {
					l = append(l, name("a", 0))
				}
				if token.Text == "(" {
					l = append(l, op(api.Add, 0))
				}
			}
			if expr.Right(l) != (len(l) <= 40) {
				t.Errorf("Right of %d nodes is %v", len(l), expr.Right(l))
			}
			holdNodes(t, l)
		}
	}
}

func TestLongLists(t *testing.T) {
	const many = 1000000
	for _, node := range []api.Node{op(api.Not, 0), op(api.Add, 0), num(1, 0), {Op: 77}} {
		l := slices.Repeat([]api.Node{node}, many)
		if expr.Right(l) || expr.Show(l) != "" || expr.Depth(l) != 0 || len(expr.Names(l)) != 0 {
			t.Errorf("a million of %v", node)
		}
		if want := modelEnd(l[:1], 0); expr.End(l, 0) != want {
			t.Errorf("End of a million of %v: %d", node, expr.End(l, 0))
		}
		if !expr.Same(l, slices.Clone(l)) || expr.Same(l, l[1:]) {
			t.Errorf("Same of a million of %v", node)
		}
	}
	l := append(slices.Repeat([]api.Node{op(api.Not, 0)}, many), num(1, 0))
	if k := expr.End(l, 0); k != many+1 {
		t.Errorf("End(..) = %d", k)
	}
}

func TestShowEachKind(t *testing.T) {
	a, b, c := name("a", 0), name("b", 0), num(3, 0)
	for kind, text := range signOf() {
		if operands(kind) == 1 {
			for _, x := range []struct {
				l    []api.Node
				want string
			}{
				{[]api.Node{op(kind, 0), a}, text + "a"},
				{[]api.Node{op(kind, 0), c}, text + "3"},
				{[]api.Node{op(kind, 0), op(kind, 0), a}, text + text + "a"},
				{[]api.Node{op(kind, 0), op(api.Mul, 0), a, b}, text + "(a * b)"},
				{[]api.Node{op(kind, 0), op(api.Or, 0), op(kind, 0), a, b}, text + "(" + text + "a || b)"},
			} {
				if s := expr.Show(x.l); s != x.want {
					t.Errorf("Show(%v) = %q, want %q", x.l, s, x.want)
				}
			}
			continue
		}
		for _, x := range []struct {
			l    []api.Node
			want string
		}{
			{[]api.Node{op(kind, 0), a, c}, "a " + text + " 3"},
			{[]api.Node{op(kind, 0), op(api.Neg, 0), a, op(api.Not, 0), c}, "-a " + text + " !3"},
			{[]api.Node{op(kind, 0), op(kind, 0), a, b, c}, "(a " + text + " b) " + text + " 3"},
			{[]api.Node{op(kind, 0), a, op(kind, 0), b, c}, "a " + text + " (b " + text + " 3)"},
			{[]api.Node{op(kind, 0), op(api.Mod, 0), a, b, op(api.Lt, 0), b, c}, "(a % b) " + text + " (b < 3)"},
		} {
			if s := expr.Show(x.l); s != x.want {
				t.Errorf("Show(%v) = %q, want %q", x.l, s, x.want)
			}
		}
	}
	for _, x := range []struct {
		node api.Node
		want string
	}{{num(0, 9), "0"}, {num(10, 0), "10"}, {num(1<<32, 0), "4294967296"}, {name("_", 0), "_"}, {name("x1", 7), "x1"}} {
		if s := expr.Show([]api.Node{x.node}); s != x.want {
			t.Errorf("Show(%v) = %q", x.node, s)
		}
	}
}

func TestEndByHand(t *testing.T) {
	// a + b, an Op that is none, - 1, and a sum that has no end
	l := []api.Node{op(api.Add, 0), name("a", 0), name("b", 0), {Op: 16}, op(api.Neg, 0), num(1, 0), op(api.Add, 0), op(api.Not, 0), num(1, 0)}
	for i, want := range map[int]int{math.MinInt: -1, -1: -1, 0: 3, 1: 2, 2: 3, 3: -1, 4: 6, 5: 6, 6: -1, 7: 9, 8: 9, 9: -1, 10: -1, math.MaxInt: -1} {
		if k := expr.End(l, i); k != want {
			t.Errorf("End(l, %d) = %d, want %d", i, k, want)
		}
	}
	for _, kind := range []int{math.MinInt, -1, 0, 16, math.MaxInt} {
		if k := expr.End([]api.Node{op(api.Not, 0), {Op: kind}}, 0); k != -1 {
			t.Errorf("End with Op %d = %d", kind, k)
		}
		if k := expr.End([]api.Node{num(0, 0), {Op: kind}}, 0); k != 1 {
			t.Errorf("End ahead of Op %d = %d", kind, k)
		}
	}
	// It needs not be right.
	wrong := []api.Node{{Op: api.Neg, N: 4, Name: "x", At: -1}, {Op: api.Var, Name: "loop", N: -1}}
	if k := expr.End(wrong, 0); k != 2 {
		t.Errorf("End of what is not right: %d", k)
	}
	deep := append(slices.Repeat([]api.Node{op(api.Not, 0)}, 50), num(1, 0))
	if k := expr.End(deep, 0); k != 51 {
		t.Errorf("End of a deep one: %d", k)
	}
	if k := expr.End(nil, 0); k != -1 {
		t.Errorf("End(nil, 0) = %d", k)
	}
}

func TestNames(t *testing.T) {
	for s, want := range map[string]string{"1": "", "-2 + 3": "", "a": "a", "b + a * b": "b a", "!(c < a) || b == c": "c a b", "a - a - a": "a", "(x1 + x) * (x + x1)": "x1 x"} {
		l, _, e, _ := expr.Parse(tokens(t, s), 0)
		if got := strings.Join(expr.Names(l), " "); got != want || e != api.OK {
			t.Errorf("Names of %q: %q", s, got)
		}
	}
	for _, l := range [][]api.Node{nil, {name("a", 0), name("b", 0)}, {name("a", 5000)}, {op(api.Neg, 0), op(api.Add, 0), name("a", 0)}} {
		if names := expr.Names(l); len(names) != 0 {
			t.Errorf("Names(%v) = %q", l, names)
		}
	}
}

func TestSame(t *testing.T) {
	l := []api.Node{op(api.Add, 1), name("a", 2), num(3, 4)}
	far := []api.Node{op(api.Add, -9), name("a", 5000), num(3, 0)}
	if !expr.Same(l, far) || !expr.Same(far, l) || !expr.Same(l, l) {
		t.Error("places count")
	}
	if !expr.Same(nil, nil) || !expr.Same(nil, []api.Node{}) || !expr.Same([]api.Node{}, nil) {
		t.Error("those without nodes differ")
	}
	for i := range l {
		for _, change := range []func(*api.Node){
			func(n *api.Node) { n.Op++ },
			func(n *api.Node) { n.N++ },
			func(n *api.Node) { n.Name += "x" },
		} {
			other := slices.Clone(l)
			change(&other[i])
			if expr.Same(l, other) || expr.Same(other, l) || !expr.Same(other, slices.Clone(other)) {
				t.Errorf("Same(%v, %v)", l, other)
			}
		}
		if expr.Same(l, l[:i]) || expr.Same(l[:i], l) || !expr.Same(l[:i], far[:i]) {
			t.Errorf("Same with %d nodes", i)
		}
	}
	swapped := []api.Node{l[0], l[2], l[1]}
	if expr.Same(l, swapped) {
		t.Error("order does not count")
	}
	// They need not be right.
	if !expr.Same([]api.Node{{Op: 99, N: -1, Name: "loop"}}, []api.Node{{Op: 99, N: -1, Name: "loop", At: -4}}) {
		t.Error("those that are not right differ")
	}
}

// P3.4: there and back

func TestShownIsRead(t *testing.T) {
	r := rand.New(rand.NewSource(5))
	some, deepest := 0, 0
	for range 20000 {
		l := wildTree(r, 1+r.Intn(21)).flat()
		for i := range l {
			l[i].At = r.Intn(4001)
		}
		if !expr.Right(l) {
			continue
		}
		some++
		deepest = max(deepest, expr.Depth(l))
		shown := tokens(t, expr.Show(l))
		back, to, e, at := expr.Parse(shown, 0)
		if e != api.OK || at != 0 || to != len(shown) || !expr.Same(l, back) || !expr.Right(back) {
			t.Fatalf("%v, shown %q, is read as %v, %d, %d, %d", l, expr.Show(l), back, to, int(e), at)
		}
	}
	if some < 5000 || deepest != 12 {
		t.Errorf("%d were right, the deepest one %d", some, deepest)
	}
}

func TestDeepestShownIsRead(t *testing.T) {
	for kind := api.Neg; kind < api.OpKinds; kind++ {
		for other := api.Neg; other < api.OpKinds; other++ {
			left, right := tree{node: num(7, 0)}, tree{node: num(7, 0)}
			for i := range 11 {
				k := []int{kind, other}[i%2]
				left = tree{op(k, 0), []tree{left, {node: name("a", 0)}}[:operands(k)]}
				right = tree{op(k, 0), []tree{{node: name("a", 0)}, right}[2-operands(k):]}
			}
			for _, l := range [][]api.Node{left.flat(), right.flat()} {
				back, _, e, _ := expr.Parse(tokens(t, expr.Show(l)), 0)
				if expr.Depth(l) != 12 || e != api.OK || !expr.Same(l, back) {
					t.Errorf("%q: %v, %d", expr.Show(l), back, int(e))
				}
			}
		}
	}
}

func TestReadIsRight(t *testing.T) {
	r := rand.New(rand.NewSource(6))
	for range 3000 {
		s := scan.Show(wildTokens(t, r))
		l, e, _ := scan.Scan(s)
		if e != api.OK {
			continue
		}
		for i := range l {
			nodes, to, e, _ := expr.Parse(l, i)
			if e != api.OK {
				continue
			}
			if !expr.Right(nodes) || to <= i || to > len(l) || expr.End(nodes, 0) != len(nodes) {
				t.Fatalf("%q, from %d: %v, up to %d", s, i, nodes, to)
			}
			if places := placesOf(l[i:to]); slices.ContainsFunc(nodes, func(n api.Node) bool { return places[n.At] == 0 }) {
				t.Fatalf("%q: of %v some stand nowhere", s, nodes)
			}
		}
	}
}

func placesOf(l []api.Token) map[int]int {
	places := map[int]int{}
	for _, token := range l {
		places[token.At]++
	}
	return places
}

// R4: memory

func TestArgumentsStay(t *testing.T) {
	room := tokens(t, "a + b * ( 2 - c ) ; x y z")
	for n := range room {
		before := slices.Clone(room)
		expr.Parse(room[:n], 0)
		if !slices.Equal(room, before) {
			t.Fatalf("Parse of %d tokens changes what it is given", n)
		}
	}
	nodes, _, _, _ := expr.Parse(room, 0)
	behind := append(slices.Clone(nodes), num(1, 1), name("q", 2))
	before := slices.Clone(behind)
	l := behind[:len(nodes)]
	expr.Right(l)
	expr.Show(l)
	expr.Depth(l)
	expr.Names(l)
	expr.End(l, 0)
	expr.Same(l, l)
	if !slices.Equal(behind, before) {
		t.Error("nodes that are handed in are changed")
	}
}

func TestAnswersAreNew(t *testing.T) {
	l := tokens(t, "a + b * -2 - c")
	for i := range l {
		first, _, _, _ := expr.Parse(l, i)
		want := slices.Clone(first)
		second, _, _, _ := expr.Parse(l, i)
		first = first[:cap(first)]
		for k := range first {
			first[k] = num(99, 99)
		}
		if !slices.Equal(second, want) {
			t.Errorf("two answers of Parse from %d share memory", i)
		}
	}
	nodes, _, _, _ := expr.Parse(l, 0)
	want := slices.Clone(nodes)
	for i := range l {
		l[i] = api.Token{Text: "z", Kind: api.Word}
	}
	names := expr.Names(nodes)
	for i := range names {
		names[i] = "z"
	}
	if !slices.Equal(nodes, want) || !slices.Equal(expr.Names(nodes), []string{"a", "b", "c"}) {
		t.Error("an answer shares memory with what was handed in")
	}
}
