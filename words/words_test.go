package words_test

import (
	"math"
	"math/big"
	"strings"
	"testing"

	"leadline/api"
	"leadline/words"
)

const low, high = math.MinInt64, math.MaxInt64

// numbers are some at both ends, around 0 and between, so that pairs of them wrap in every way.
func numbers() []int {
	return []int{low, low + 1, low + 2, low / 2, low/2 - 1, -1 << 32, -1000000007, -10, -7, -3, -2, -1, 0, 1, 2, 3, 7, 10, 1000000007, 1 << 32, high / 2, high/2 + 1, high - 1, high}
}

// wrapped is the number that differs from n by a multiple of 2^64, told by numbers without bounds.
func wrapped(n *big.Int) int {
	all := new(big.Int).Lsh(big.NewInt(1), 64)
	rest := new(big.Int).Mod(n, all) // 0 to 2^64 - 1
	if rest.Cmp(big.NewInt(high)) > 0 {
		rest.Sub(rest, all)
	}
	return int(rest.Int64())
}

func truth(is bool) int {
	if is {
		return 1
	}
	return 0
}

func expectOne(t *testing.T, op, a, want int, e api.Errno) {
	t.Helper()
	if n, err := words.One(op, a); n != want || err != e {
		t.Errorf("One(%d, %d) = %d, %d, want %d, %d", op, a, n, int(err), want, int(e))
	}
}

func expectTwo(t *testing.T, op, a, b, want int, e api.Errno) {
	t.Helper()
	if n, err := words.Two(op, a, b); n != want || err != e {
		t.Errorf("Two(%d, %d, %d) = %d, %d, want %d, %d", op, a, b, n, int(err), want, int(e))
	}
}

func expectParse(t *testing.T, s string, want int, e api.Errno) {
	t.Helper()
	if n, err := words.Parse(s); n != want || err != e {
		t.Errorf("Parse(%q) = %d, %d, want %d, %d", s, n, int(err), want, int(e))
	}
}

// wrongOps are operators of which none is of the call's own.
func wrongOps(own func(op int) bool) []int {
	out := []int{low, high, -1 << 32, 1 << 32}
	for op := -20; op < api.OpKinds+20; op++ {
		if !own(op) {
			out = append(out, op)
		}
	}
	return out
}

// P1.1

func TestOneByHand(t *testing.T) {
	expectOne(t, api.Neg, 5, -5, api.OK)
	expectOne(t, api.Neg, -5, 5, api.OK)
	expectOne(t, api.Neg, 0, 0, api.OK)
	expectOne(t, api.Neg, high, low+1, api.OK)
	expectOne(t, api.Neg, low+1, high, api.OK)
	expectOne(t, api.Neg, low, low, api.OK)
	expectOne(t, api.Not, 0, 1, api.OK)
	for _, a := range []int{1, -1, 2, high, low} {
		expectOne(t, api.Not, a, 0, api.OK)
	}
}

func TestOneOfAllNumbers(t *testing.T) {
	for _, a := range numbers() {
		expectOne(t, api.Neg, a, wrapped(new(big.Int).Neg(big.NewInt(int64(a)))), api.OK)
		expectOne(t, api.Not, a, truth(a == 0), api.OK)
	}
}

func TestOneOfOtherOperators(t *testing.T) {
	for _, op := range wrongOps(func(op int) bool { return op == api.Neg || op == api.Not }) {
		for _, a := range []int{0, 1, -7, low, high} {
			expectOne(t, op, a, 0, api.ErrArg)
		}
	}
}

// P1.2

func TestTwoByHand(t *testing.T) {
	for _, x := range []struct{ op, a, b, want int }{
		{api.Add, 2, 3, 5}, {api.Add, high, 1, low}, {api.Add, low, -1, high}, {api.Add, high, high, -2}, {api.Add, low, low, 0},
		{api.Sub, 2, 3, -1}, {api.Sub, low, 1, high}, {api.Sub, high, -1, low}, {api.Sub, 0, low, low},
		{api.Mul, -2, 3, -6}, {api.Mul, high, 2, -2}, {api.Mul, high, high, 1}, {api.Mul, low, -1, low}, {api.Mul, 1 << 32, 1 << 32, 0}, {api.Mul, 1 << 32, 1 << 31, low},
		{api.Div, 7, 2, 3}, {api.Div, -7, 2, -3}, {api.Div, 7, -2, -3}, {api.Div, -7, -2, 3}, {api.Div, 0, 5, 0}, {api.Div, 1, high, 0}, {api.Div, low, -1, low}, {api.Div, low, 1, low}, {api.Div, high, -1, low + 1},
		{api.Mod, 7, 2, 1}, {api.Mod, -7, 2, -1}, {api.Mod, 7, -2, 1}, {api.Mod, -7, -2, -1}, {api.Mod, 6, 3, 0}, {api.Mod, low, -1, 0}, {api.Mod, low, high, -1}, {api.Mod, high, low, high},
		{api.Eq, 2, 2, 1}, {api.Eq, 2, 3, 0}, {api.Ne, 2, 2, 0}, {api.Ne, low, high, 1},
		{api.Lt, low, high, 1}, {api.Lt, high, low, 0}, {api.Lt, 2, 2, 0}, {api.Le, 2, 2, 1}, {api.Le, 3, 2, 0}, {api.Le, -1, 0, 1},
		{api.And, 2, 4, 1}, {api.And, 2, 0, 0}, {api.And, 0, 2, 0}, {api.And, 0, 0, 0},
		{api.Or, 2, 4, 1}, {api.Or, -1, 0, 1}, {api.Or, 0, low, 1}, {api.Or, 0, 0, 0},
	} {
		expectTwo(t, x.op, x.a, x.b, x.want, api.OK)
	}
}

func TestTwoOfAllPairs(t *testing.T) {
	for _, a := range numbers() {
		for _, b := range numbers() {
			checkPair(t, a, b)
		}
	}
}

func checkPair(t *testing.T, a, b int) {
	t.Helper()
	x, y := big.NewInt(int64(a)), big.NewInt(int64(b))
	expectTwo(t, api.Add, a, b, wrapped(new(big.Int).Add(x, y)), api.OK)
	expectTwo(t, api.Sub, a, b, wrapped(new(big.Int).Sub(x, y)), api.OK)
	expectTwo(t, api.Mul, a, b, wrapped(new(big.Int).Mul(x, y)), api.OK)
	if b == 0 {
		expectTwo(t, api.Div, a, b, 0, api.ErrDiv)
		expectTwo(t, api.Mod, a, b, 0, api.ErrDiv)
	} else {
		quotient, rest := new(big.Int).QuoRem(x, y, new(big.Int))
		expectTwo(t, api.Div, a, b, wrapped(quotient), api.OK)
		expectTwo(t, api.Mod, a, b, wrapped(rest), api.OK)
	}
	order := x.Cmp(y)
	expectTwo(t, api.Eq, a, b, truth(order == 0), api.OK)
	expectTwo(t, api.Ne, a, b, truth(order != 0), api.OK)
	expectTwo(t, api.Lt, a, b, truth(order < 0), api.OK)
	expectTwo(t, api.Le, a, b, truth(order <= 0), api.OK)
	expectTwo(t, api.And, a, b, truth(a != 0 && b != 0), api.OK)
	expectTwo(t, api.Or, a, b, truth(a != 0 || b != 0), api.OK)
}

func TestTwoOfOtherOperators(t *testing.T) {
	for _, op := range wrongOps(func(op int) bool { return op >= api.Add && op <= api.Or }) {
		for _, b := range []int{0, 1, -7, low, high} {
			expectTwo(t, op, 3, b, 0, api.ErrArg)
		}
	}
}

// P1.3

func TestTruths(t *testing.T) {
	for _, n := range numbers() {
		if words.Truth(n) != (n != 0) {
			t.Errorf("Truth(%d) = %v", n, words.Truth(n))
		}
	}
	if n := words.Bool(true); n != 1 {
		t.Errorf("Bool(true) = %d", n)
	}
	if n := words.Bool(false); n != 0 {
		t.Errorf("Bool(false) = %d", n)
	}
}

func TestTextByHand(t *testing.T) {
	for _, x := range []struct {
		n    int
		text string
	}{
		{0, "0"}, {7, "7"}, {-7, "-7"}, {10, "10"}, {99, "99"}, {100, "100"}, {1200, "1200"}, {-1200, "-1200"},
		{1 << 32, "4294967296"}, {high, "9223372036854775807"}, {high - 1, "9223372036854775806"},
		{low, "-9223372036854775808"}, {low + 1, "-9223372036854775807"},
	} {
		if s := words.Text(x.n); s != x.text {
			t.Errorf("Text(%d) = %q, want %q", x.n, s, x.text)
		}
		expectParse(t, x.text, x.n, api.OK)
	}
}

func TestParseTooGreat(t *testing.T) {
	for _, digits := range []string{
		"9223372036854775809", "9223372036854775810", "9223372036854775900", "9300000000000000000", "10000000000000000000",
		"18446744073709551615", "18446744073709551616", "18446744073709551617", "99999999999999999999", "92233720368547758070", "92233720368547758080",
		"36893488147419103233", "1" + strings.Repeat("0", 64), strings.Repeat("9", 5000), "1" + strings.Repeat("0", 100000),
	} {
		expectParse(t, digits, 0, api.ErrNumber)
		expectParse(t, "-"+digits, 0, api.ErrNumber)
	}
	// The one beyond the upper end is a number with a - ahead.
	expectParse(t, "9223372036854775808", 0, api.ErrNumber)
	expectParse(t, "-9223372036854775808", low, api.OK)
}

func TestParseNoForm(t *testing.T) {
	great := strings.Repeat("9", 30)
	for _, s := range []string{
		"", "-", "--", "--1", "-0", "00", "01", "-01", "007", "-00", "+1", "+0", "1-", "1-1", "-1-",
		" ", " 1", "1 ", "- 1", "1\n", "\t1", "1 2", "a", "1a", "a1", "0x10", "1_000", "1e3", "1.0", "1,0", "/", ":", "1/", "1:",
		"\x00", "1\x00", "\xff", "1\xff", "\xb1", "٣", "1٣", "１", "-１", "−1", "²",
		great + "a", "-" + great + " ", great + "-", "0" + great, "-0" + great, "+" + great, "00" + great, great + "\xff", great + "１",
	} {
		expectParse(t, s, 0, api.ErrForm)
	}
}

// TestParseShortTexts goes over all texts of up to four of some bytes: each is a number's Text, and its number, or has no form.
func TestParseShortTexts(t *testing.T) {
	texts := map[string]int{}
	for n := -999; n <= 9999; n++ {
		texts[new(big.Int).SetInt64(int64(n)).String()] = n
	}
	var grow func(s string)
	grow = func(s string) {
		if n, is := texts[s]; is {
			expectParse(t, s, n, api.OK)
		} else {
			expectParse(t, s, 0, api.ErrForm)
		}
		if len(s) == 4 {
			return
		}
		for _, c := range []string{"-", "+", "/", "0", "1", "5", "9", ":", " ", "\xff"} {
			grow(s + c)
		}
	}
	grow("")
}

// P1.4

func TestOneTextEach(t *testing.T) {
	seen := map[string]int{}
	check := func(n int) {
		s := words.Text(n)
		if other, is := seen[s]; is && other != n {
			t.Errorf("%d and %d are both %q", n, other, s)
		}
		seen[s] = n
		if want := big.NewInt(int64(n)).String(); s != want {
			t.Errorf("Text(%d) = %q, want %q", n, s, want)
		}
		expectParse(t, s, n, api.OK)
	}
	for _, n := range numbers() {
		check(n)
	}
	for i := range 2000 {
		check(i - 1000)
		check(low + i)
		check(high - i)
	}
	for i := range 64 {
		check(1 << i)
		check(-1 << i)
		check(1<<i - 1)
	}
}

func TestQuotientAndRest(t *testing.T) {
	for _, a := range numbers() {
		for _, b := range numbers() {
			if b != 0 {
				checkRest(t, a, b)
			}
		}
	}
}

func checkRest(t *testing.T, a, b int) {
	t.Helper()
	quotient, _ := words.Two(api.Div, a, b)
	rest, _ := words.Two(api.Mod, a, b)
	product, _ := words.Two(api.Mul, b, quotient)
	if sum, _ := words.Two(api.Add, product, rest); sum != a {
		t.Errorf("%d by %d: %d times and %d are %d", a, b, quotient, rest, sum)
	}
	if big.NewInt(int64(rest)).CmpAbs(big.NewInt(int64(b))) >= 0 {
		t.Errorf("%d by %d: the rest %d is not nearer to 0", a, b, rest)
	}
	if rest != 0 && (rest < 0) != (a < 0) {
		t.Errorf("%d by %d: the rest %d has another sign", a, b, rest)
	}
}
