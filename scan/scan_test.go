package scan_test

import (
	"math"
	"math/big"
	"math/rand"
	"regexp"
	"slices"
	"strings"
	"testing"

	"leadline/api"
	"leadline/scan"
)

func keptList() []string {
	return strings.Fields("line vol lock thread reg load store cas flush opt sfence mfence take give if else loop break check recover always")
}

func pairs() []string { return strings.Fields("== != <= && ||") }

func singles() []string { return strings.Split("(){};,=<!+-*/%", "") }

func word(text string, at int) api.Token { return api.Token{Kind: api.Word, Text: text, At: at} }

func sign(text string, at int) api.Token { return api.Token{Kind: api.Sign, Text: text, At: at} }

func number(text string, n, at int) api.Token {
	return api.Token{Kind: api.Number, Text: text, N: n, At: at}
}

func expectTokens(t *testing.T, s string, want ...api.Token) {
	t.Helper()
	if l, e, at := scan.Scan(s); e != api.OK || at != 0 || !slices.Equal(l, want) {
		t.Errorf("Scan(%q) = %v, %d, %d, want %v", s, l, int(e), at, want)
	}
}

func expectError(t *testing.T, s string, want api.Errno, place int) {
	t.Helper()
	if l, e, at := scan.Scan(s); len(l) != 0 || e != want || at != place {
		t.Errorf("Scan(%q) = %v, %d, %d, want %d, %d", s, l, int(e), at, int(want), place)
	}
}

// P2.1: the tokens

func TestScanByHand(t *testing.T) {
	expectTokens(t, "")
	expectTokens(t, "x1 <= 10 // no", word("x1", 0), sign("<=", 3), number("10", 10, 6))
	expectTokens(t, "store a=r+10;", word("store", 0), word("a", 6), sign("=", 7), word("r", 8), sign("+", 9), number("10", 10, 10), sign(";", 12))
	expectTokens(t, "_ _a9_ a_b", word("_", 0), word("_a9_", 2), word("a_b", 7))
	expectTokens(t, "12ab34", number("12", 12, 0), word("ab34", 2))
	expectTokens(t, "1_", number("1", 1, 0), word("_", 1))
	expectTokens(t, "az09", word("az09", 0))
	expectTokens(t, "loop loops", word("loop", 0), word("loops", 5))
	expectTokens(t, "0 00 007", number("0", 0, 0), number("00", 0, 2), number("007", 7, 5))
	expectTokens(t, "-5", sign("-", 0), number("5", 5, 1))
}

func TestScanSigns(t *testing.T) {
	for _, s := range append(pairs(), singles()...) {
		expectTokens(t, s, sign(s, 0))
		expectTokens(t, "a"+s+"1", word("a", 0), sign(s, 1), number("1", 1, 1+len(s)))
	}
	expectTokens(t, "===", sign("==", 0), sign("=", 2))
	expectTokens(t, "====", sign("==", 0), sign("==", 2))
	expectTokens(t, "!==", sign("!=", 0), sign("=", 2))
	expectTokens(t, "!!=", sign("!", 0), sign("!=", 1))
	expectTokens(t, "<==", sign("<=", 0), sign("=", 2))
	expectTokens(t, "<<=", sign("<", 0), sign("<=", 1))
	expectTokens(t, "=<", sign("=", 0), sign("<", 1))
	expectTokens(t, "=!", sign("=", 0), sign("!", 1))
	expectTokens(t, "&&||", sign("&&", 0), sign("||", 2))
}

func TestScanBytesOfPairs(t *testing.T) {
	for _, s := range pairs() {
		for i := range s {
			c := s[i : i+1]
			if slices.Contains(singles(), c) {
				expectTokens(t, c, sign(c, 0))
			} else {
				expectError(t, c, api.ErrChar, 0)
			}
		}
	}
	for _, blank := range []string{" ", "\t", "\n", "\r", "//\n"} {
		for _, s := range []string{"==", "!=", "<="} {
			expectTokens(t, s[:1]+blank+s[1:], sign(s[:1], 0), sign(s[1:], 1+len(blank)))
		}
		expectError(t, "a&"+blank+"&b", api.ErrChar, 1)
		expectError(t, "a|"+blank+"|b", api.ErrChar, 1)
	}
	expectError(t, "a &b", api.ErrChar, 2)
	expectError(t, "a&&&b", api.ErrChar, 3)
	expectError(t, "a|||", api.ErrChar, 3)
	expectError(t, "&|", api.ErrChar, 0)
	expectError(t, "a ||&", api.ErrChar, 4)
}

func TestScanBlanks(t *testing.T) {
	expectTokens(t, " \t\n\r")
	for _, blank := range []string{" ", "\t", "\n", "\r"} {
		expectTokens(t, blank)
		expectTokens(t, "a"+blank+"b", word("a", 0), word("b", 2))
		expectTokens(t, "1"+blank+"2", number("1", 1, 0), number("2", 2, 2))
		expectTokens(t, blank+"a"+blank, word("a", 1))
	}
	expectTokens(t, strings.Repeat(" ", 4000))
}

func TestScanRemarks(t *testing.T) {
	expectTokens(t, "//")
	expectTokens(t, "//\n")
	expectTokens(t, "a// # A & \xff\x00 b", word("a", 0))
	expectTokens(t, "a// #\nb", word("a", 0), word("b", 6))
	expectTokens(t, "a//\nb//", word("a", 0), word("b", 4))
	expectTokens(t, "// a // b\n// c\nd", word("d", 15))
	expectTokens(t, "//a\rb\tc\nd", word("d", 8)) // byte 13 ends no line
	expectTokens(t, "a///b", word("a", 0))
	expectTokens(t, "a/ /b", word("a", 0), sign("/", 1), sign("/", 3), word("b", 4))
	expectTokens(t, "a/\n/b", word("a", 0), sign("/", 1), sign("/", 3), word("b", 4))
	expectTokens(t, "/*//*/1", sign("/", 0), sign("*", 1))
	expectTokens(t, "a=//b", word("a", 0), sign("=", 1))
	expectTokens(t, "// 99999999999 abcdefghijklmnopqrst\nx", word("x", 36))
	expectError(t, "//\n#", api.ErrChar, 3)
}

// P2.1: what is wrong

func TestScanLongTexts(t *testing.T) {
	for _, fill := range []string{" ", "(", "\n", "/"} {
		if l, e, at := scan.Scan(strings.Repeat(fill, 4000)); e != api.OK || at != 0 {
			t.Errorf("4000 times %q: %d tokens, %d, %d", fill, len(l), int(e), at)
		}
	}
	if l, _, _ := scan.Scan(strings.Repeat("(", 4000)); len(l) != 4000 || l[3999] != sign("(", 3999) {
		t.Errorf("4000 signs have %d tokens", len(l))
	}
	expectTokens(t, strings.Repeat(" ", 3999)+"a", word("a", 3999))
	expectError(t, strings.Repeat(" ", 3999)+"#", api.ErrChar, 3999)
	for _, fill := range []string{" ", "(", "#", "a", "9", "/", "\xff"} {
		expectError(t, strings.Repeat(fill, 4001), api.ErrBig, 4000)
		expectError(t, strings.Repeat(fill, 10000), api.ErrBig, 4000)
	}
}

func TestScanOtherBytes(t *testing.T) {
	begins := "abcdefghijklmnopqrstuvwxyz_0123456789(){};,=<!+-*/% \t\n\r"
	for c := range 256 {
		s := string([]byte{byte(c)})
		if !strings.Contains(begins, s) {
			expectError(t, s, api.ErrChar, 0)
			expectError(t, "a 1 "+s+" b", api.ErrChar, 4)
			expectError(t, "ab"+s+"c", api.ErrChar, 2)
			expectError(t, "12"+s, api.ErrChar, 2)
		} else if _, e, _ := scan.Scan(s); e != api.OK {
			t.Errorf("byte %d: %d", c, int(e))
		}
	}
	expectError(t, "aé", api.ErrChar, 1)
	expectError(t, "1３", api.ErrChar, 1)
	expectError(t, "a > b", api.ErrChar, 2)
	expectError(t, "A", api.ErrChar, 0)
	expectError(t, "aB", api.ErrChar, 1)
}

func TestScanLongWords(t *testing.T) {
	for _, c := range []string{"a", "_", "z"} {
		for n := 1; n <= 16; n++ {
			expectTokens(t, "+"+strings.Repeat(c, n)+"-", sign("+", 0), word(strings.Repeat(c, n), 1), sign("-", n+1))
		}
		for _, n := range []int{17, 18, 32, 3999} {
			expectError(t, "+"+strings.Repeat(c, n), api.ErrBig, 1)
		}
	}
	expectTokens(t, "a123456789012345", word("a123456789012345", 0))
	expectError(t, "a1234567890123456", api.ErrBig, 0)
	expectError(t, "x abcdefghijklmnopq", api.ErrBig, 2)
	expectTokens(t, "12345678abcdefghijklmnop", number("12345678", 12345678, 0), word("abcdefghijklmnop", 8))
}

func TestScanGreatNumbers(t *testing.T) {
	for _, zeros := range []int{0, 1, 4, 100, 3900} {
		for _, x := range []struct {
			digits string
			n      int
		}{{"1", 1}, {"10", 10}, {"999999999", 999999999}, {"4294967295", 1<<32 - 1}, {"4294967296", 1 << 32}} {
			s := strings.Repeat("0", zeros) + x.digits
			expectTokens(t, s+";", number(s, x.n, 0), sign(";", len(s)))
		}
		for _, digits := range []string{
			"4294967297", "4294967300", "5000000000", "9999999999", "10000000000", "42949672960", "42949672950",
			"9223372036854775807", "9223372036854775808", "18446744073709551616", "18446744073709551617", "99999999999999999999999",
		} {
			expectError(t, "x "+strings.Repeat("0", zeros)+digits, api.ErrNumber, 2)
		}
	}
	zeros := strings.Repeat("0", 4000)
	expectTokens(t, zeros, number(zeros, 0, 0))
	expectError(t, strings.Repeat("9", 4000), api.ErrNumber, 0)
}

func TestScanFirstErrorFromTheLeft(t *testing.T) {
	wrong := []struct {
		s string
		e api.Errno
	}{{"#", api.ErrChar}, {"&", api.ErrChar}, {"abcdefghijklmnopq", api.ErrBig}, {"4294967297", api.ErrNumber}}
	for _, x := range wrong {
		for _, y := range wrong {
			expectError(t, "a "+x.s+" "+y.s, x.e, 2)
			expectError(t, "// #\n"+x.s+"\n1 "+y.s+" b", x.e, 5)
		}
	}
	expectError(t, "abcdefghijklmnopq#", api.ErrBig, 0)
	expectError(t, "4294967297#", api.ErrNumber, 0)
	expectError(t, "4294967297abcdefghijklmnopq", api.ErrNumber, 0)
	expectError(t, "#abcdefghijklmnopq", api.ErrChar, 0)
}

// model scans by expressions: what it tells must be what Scan tells.
type model struct{ skip, word, number, sign *regexp.Regexp }

func newModel() model {
	return model{
		skip:   regexp.MustCompile(`^([ \t\n\r]|//[^\n]*)`),
		word:   regexp.MustCompile(`^[a-z_][a-z_0-9]*`),
		number: regexp.MustCompile(`^[0-9]+`),
		sign:   regexp.MustCompile(`^(==|!=|<=|&&|\|\||[(){};,=<!+\-*/%])`),
	}
}

func (m model) scan(s string) ([]api.Token, api.Errno, int) {
	var l []api.Token
	for at := 0; at < len(s); {
		rest := s[at:]
		text := m.skip.FindString(rest)
		if text == "" {
			token, e := m.token(rest)
			if e != api.OK {
				return nil, e, at
			}
			token.At = at
			l = append(l, token)
			text = token.Text
		}
		at += len(text)
	}
	return l, api.OK, 0
}

func (m model) token(s string) (api.Token, api.Errno) {
	if text := m.word.FindString(s); len(text) > 16 {
		return api.Token{}, api.ErrBig
	} else if text != "" {
		return word(text, 0), api.OK
	}
	if text := m.number.FindString(s); text != "" {
		n, _ := new(big.Int).SetString(text, 10)
		if n.Cmp(big.NewInt(1<<32)) > 0 {
			return api.Token{}, api.ErrNumber
		}
		return number(text, int(n.Int64()), 0), api.OK
	}
	if text := m.sign.FindString(s); text != "" {
		return sign(text, 0), api.OK
	}
	return api.Token{}, api.ErrChar
}

func (m model) check(t *testing.T, s string) {
	t.Helper()
	want, wantE, place := m.scan(s)
	l, e, at := scan.Scan(s)
	if !slices.Equal(l, want) || e != wantE || at != place {
		t.Errorf("Scan(%q) = %v, %d, %d, want %v, %d, %d", s, l, int(e), at, want, int(wantE), place)
	}
	checkShown(t, l)
}

func TestScanShortTexts(t *testing.T) {
	m := newModel()
	var grow func(s string)
	grow = func(s string) {
		m.check(t, s)
		if len(s) == 4 {
			return
		}
		for _, c := range []string{"a", "0", "7", "=", "!", "<", "&", "|", "/", "%", " ", "\n", "#", "_"} {
			grow(s + c)
		}
	}
	grow("")
}

func TestScanManyTexts(t *testing.T) {
	m := newModel()
	pieces := append(keptList(), pairs()...)
	pieces = append(pieces, singles()...)
	pieces = append(pieces, " ", " ", " ", "\n", "\t", "\r", "//", "// x\n", "a", "b1", "_", "12", "0", "00", "4294967296", "abcdefghij")
	bad := []string{"#", "&", "|", ">", "A", "\xff", "4294967297", "abcdefghijklmnopq", "\x00"}
	r := rand.New(rand.NewSource(1))
	for range 20000 {
		var s strings.Builder
		for range r.Intn(30) {
			if r.Intn(60) == 0 {
				s.WriteString(bad[r.Intn(len(bad))])
			} else {
				s.WriteString(pieces[r.Intn(len(pieces))])
			}
		}
		m.check(t, s.String())
	}
}

func TestScanAnswersNewMemory(t *testing.T) {
	l, _, _ := scan.Scan("a = b")
	for i := range l {
		l[i] = sign("#", 77)
	}
	expectTokens(t, "a = b", word("a", 0), sign("=", 2), word("b", 4))
}

// P2.2

func expectName(t *testing.T, s string, want bool) {
	t.Helper()
	if scan.Name(s) != want {
		t.Errorf("Name(%q) = %v", s, !want)
	}
}

func TestName(t *testing.T) {
	for _, s := range []string{"a", "z", "_", "__", "a1", "a_1", "_1", "loops", "loo", "ifs", "if_", "i", "lines", "_if", "abcdefghijklmnop", "a123456789012345", strings.Repeat("_", 16)} {
		expectName(t, s, true)
	}
	for _, s := range []string{
		"", " ", "1", "1a", "9_", "A", "aB", "a b", " a", "a ", "a\n", "a-b", "a.b", "a;", "é", "aé", "a\x00", "a\xff", "`", "{", "a{", "a`", "a/", "a:", "#",
		"abcdefghijklmnopq", "a1234567890123456", strings.Repeat("a", 5000), "a // b", "//", "==",
	} {
		expectName(t, s, false)
	}
	for _, s := range keptList() {
		expectName(t, s, false)
	}
}

// TestNameIsOneWord: a name's tokens are itself, a Word, and a text with such tokens is a name, or kept.
func TestNameIsOneWord(t *testing.T) {
	var grow func(s string)
	grow = func(s string) {
		l, e, _ := scan.Scan(s)
		one := e == api.OK && slices.Equal(l, []api.Token{word(s, 0)})
		expectName(t, s, one && !slices.Contains(keptList(), s))
		if len(s) == 3 {
			return
		}
		for _, c := range []string{"i", "f", "a", "_", "0", "9", "A", " ", "/", "=", "`", "{"} {
			grow(s + c)
		}
	}
	grow("")
}

func TestKept(t *testing.T) {
	for _, s := range keptList() {
		if !scan.Kept(s) {
			t.Errorf("Kept(%q) = false", s)
		}
		for _, other := range []string{s + "s", s + " ", " " + s, s[1:], s[:len(s)-1], strings.ToUpper(s), s + "\x00", s + s} {
			if scan.Kept(other) {
				t.Errorf("Kept(%q) = true", other)
			}
		}
	}
	for _, s := range []string{"", "a", "set", "fence", "crash", "step", "while", "line vol", "lin", "1", "=="} {
		if scan.Kept(s) {
			t.Errorf("Kept(%q) = true", s)
		}
	}
}

func TestShow(t *testing.T) {
	for _, x := range []struct {
		want string
		l    []api.Token
	}{
		{"", nil},
		{"", []api.Token{}},
		{"a", []api.Token{word("a", 9)}},
		{"a 007", []api.Token{word("a", 2), number("007", 7, 5)}},
		{"a = b + 10 ;", []api.Token{word("a", 0), sign("=", 1), word("b", 2), sign("+", 3), number("10", 10, 4), sign(";", 6)}},
		{"x x", []api.Token{word("x", 3), word("x", 0)}},
		{"  ", []api.Token{{}, {}, {}}},
		{"a b c ", []api.Token{{Kind: 9, Text: "a b"}, {Kind: -1, Text: "c "}}},
	} {
		if s := scan.Show(x.l); s != x.want {
			t.Errorf("Show(%v) = %q, want %q", x.l, s, x.want)
		}
	}
}

func expectIs(t *testing.T, l []api.Token, i int, s string, want bool) {
	t.Helper()
	if scan.Is(l, i, s) != want {
		t.Errorf("Is(%v, %d, %q) = %v", l, i, s, !want)
	}
}

func TestIs(t *testing.T) {
	l := []api.Token{word("a", 2), number("7", 7, 5), sign("==", 7), word("loop", 9), {}, {Kind: 4, Text: "x"}, {Kind: -1, Text: "x"}, word("", 0)}
	expectIs(t, l, 0, "a", true)
	expectIs(t, l, 2, "==", true)
	expectIs(t, l, 3, "loop", true)
	expectIs(t, l, 7, "", true)
	expectIs(t, l, 0, "b", false)
	expectIs(t, l, 0, "", false)
	expectIs(t, l, 0, "a ", false)
	expectIs(t, l, 2, "=", false)
	expectIs(t, l, 2, "a", false)
	expectIs(t, l, 3, "loops", false)
	expectIs(t, l, 1, "7", false)
	expectIs(t, l, 4, "", false)
	expectIs(t, l, 5, "x", false)
	expectIs(t, l, 6, "x", false)
	for _, i := range []int{-1, -2, len(l), len(l) + 1, math.MinInt, math.MaxInt} {
		for _, s := range []string{"", "a", "=="} {
			expectIs(t, l, i, s, false)
			expectIs(t, nil, i, s, false)
		}
	}
	expectIs(t, nil, 0, "", false)
	expectIs(t, []api.Token{}, 0, "", false)
}

func expectPlace(t *testing.T, l []api.Token, i, want int) {
	t.Helper()
	if at := scan.Place(l, i); at != want {
		t.Errorf("Place(%v, %d) = %d, want %d", l, i, at, want)
	}
}

func TestPlace(t *testing.T) {
	l := []api.Token{word("abc", 2), number("0012", 12, 6), sign("<=", 11)}
	expectPlace(t, l, 0, 2)
	expectPlace(t, l, 1, 6)
	expectPlace(t, l, 2, 11)
	for _, i := range []int{3, 4, 100, -1, -2, -3, math.MinInt, math.MaxInt} {
		expectPlace(t, l, i, 13)
		expectPlace(t, l[:2], i, 10)
		expectPlace(t, nil, i, 0)
		expectPlace(t, []api.Token{}, i, 0)
	}
	expectPlace(t, l[:2], 2, 10)
	expectPlace(t, nil, 0, 0)
	scanned, _, _ := scan.Scan(" a  bc // no")
	expectPlace(t, scanned, 1, 4)
	expectPlace(t, scanned, 2, 6)
}

func TestTokensAreLeft(t *testing.T) {
	room := []api.Token{word("a", 0), sign("=", 1), number("7", 7, 2), word("b", 9)}
	before := slices.Clone(room)
	l := room[:3]
	scan.Show(l)
	scan.Is(l, 1, "=")
	scan.Place(l, 5)
	if !slices.Equal(room, before) {
		t.Errorf("the tokens are %v now, were %v", room, before)
	}
}

// P2.3

// checkShown holds what is shown of tokens against them, if it is no longer than a text may be.
func checkShown(t *testing.T, l []api.Token) {
	t.Helper()
	shown := scan.Show(l)
	if len(shown) > 4000 {
		return
	}
	again, e, at := scan.Scan(shown)
	if e != api.OK || at != 0 || len(again) != len(l) {
		t.Fatalf("Scan(%q) = %v, %d, %d, want the tokens of %v", shown, again, int(e), at, l)
	}
	for i, token := range again {
		token.At = l[i].At
		if token != l[i] {
			t.Errorf("%q: token %d is %v, was %v", shown, i, token, l[i])
		}
	}
}

func TestShownTokens(t *testing.T) {
	for _, s := range []string{
		"", " ", "// a", "a/ /b", "/ / /", "a< =b", "= =", "! =", "& &", "1 2", "12ab", "a b", "007", "x1<=10// no\n;",
		"line a; thread t { reg r; loop 3 { store a = -r; } } always a<=1 && !(b!=0 || c==1);",
		strings.Repeat("(", 2000), strings.Repeat("a ", 2000), strings.Repeat("0", 4000),
	} {
		if l, e, _ := scan.Scan(s); e == api.OK {
			checkShown(t, l)
		}
	}
	all := append(append(pairs(), singles()...), "a", "_", "1", "00", "loop")
	for _, a := range all {
		for _, b := range all {
			checkShown(t, []api.Token{tokenOf(a), tokenOf(b)})
		}
	}
}

func tokenOf(text string) api.Token {
	l, _, _ := scan.Scan(text)
	return l[0]
}
