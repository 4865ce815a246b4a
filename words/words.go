// Package words is layer 1: numbers of 64 bits: see shared/doc/01-words.md.
package words

import (
	"math"
	"strconv"
	"strings"

	"leadline/api"
)

// One is what an operator makes of one number, Two of two.
func One(op, a int) (int, api.Errno) {
	return apply([api.OpKinds]func() int{
		api.Neg: func() int { return -a },
		api.Not: func() int { return Bool(!Truth(a)) },
	}, op)
}

func Two(op, a, b int) (int, api.Errno) {
	if b == 0 && (op == api.Div || op == api.Mod) {
		return 0, api.ErrDiv
	}
	return apply([api.OpKinds]func() int{
		api.Add: func() int { return a + b },
		api.Sub: func() int { return a - b },
		api.Mul: func() int { return a * b },
		api.Div: func() int { return a / b },
		api.Mod: func() int { return a % b },
		api.Eq:  func() int { return Bool(a == b) },
		api.Ne:  func() int { return Bool(a != b) },
		api.Lt:  func() int { return Bool(a < b) },
		api.Le:  func() int { return Bool(a <= b) },
		api.And: func() int { return Bool(Truth(a) && Truth(b)) },
		api.Or:  func() int { return Bool(Truth(a) || Truth(b)) },
	}, op)
}

// apply works on operators that already hold their operands, so that those of one and of two are asked alike.
func apply(operators [api.OpKinds]func() int, op int) (int, api.Errno) {
	if op < 0 || op >= len(operators) || operators[op] == nil {
		return 0, api.ErrArg
	}
	return operators[op](), api.OK
}

// Truth is a number as a truth, Bool a truth as a number.
func Truth(n int) bool { return n != 0 }

func Bool(is bool) int {
	if is {
		return 1
	}
	return 0
}

// Text is a number as a text; Parse is a text's number.
func Text(n int) string { return strconv.Itoa(n) }

func Parse(s string) (int, api.Errno) {
	if s == "0" {
		return 0, api.OK
	}
	digits, minus := strings.CutPrefix(s, "-")
	// The form is told of the whole text first: one that is too great and then goes wrong has no form.
	if !plain(digits) {
		return 0, api.ErrForm
	}
	n, fits := below(digits)
	if !fits || !minus && n == math.MinInt {
		return 0, api.ErrNumber
	}
	if minus {
		return n, api.OK
	}
	return -n, api.OK
}

// plain tells whether a text is digits alone, of which the first one is no 0.
func plain(digits string) bool {
	for i, r := range digits {
		if r < '0' || r > '9' || i == 0 && r == '0' {
			return false
		}
	}
	return digits != ""
}

// below is the number that digits tell with a - ahead, and whether there is one: there is one more of these than of those without it.
func below(digits string) (int, bool) {
	n := 0
	for _, r := range digits {
		d := int(r - '0')
		if n < (math.MinInt+d)/10 {
			return 0, false
		}
		n = n*10 - d
	}
	return n, true
}
