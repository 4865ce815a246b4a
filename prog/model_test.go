package prog_test

import (
	"fmt"
	"math/rand"
	"reflect"
	"slices"
	"strconv"
	"strings"

	"leadline/api"
	"leadline/expr"
	"leadline/scan"
	"leadline/stmt"
)

// What the chapter says, told another way: by states, by texts that are made of wild pieces, and by a walk over all that a program holds.

const keptWords = "line vol lock thread reg load store cas flush opt sfence mfence take give if else loop break check recover always"

// moves tell, of each state, what may come, and which state is then; at "top", "block" and "claim" the model sees for itself.
var moves = map[string]map[string]string{
	"cells":    {"name": "cell"},
	"cell":     {"=": "number", ",": "cells", ";": "top"},
	"number":   {"number": "numbered"},
	"numbered": {",": "cells", ";": "top"},
	"locks":    {"name": "lock"},
	"lock":     {",": "locks", ";": "top"},
	"thread":   {"name": "open"},
	"open":     {"{": "block"},
	"regs":     {"name": "reg"},
	"reg":      {",": "regs", ";": "statements"},
	"claimed":  {";": "top"},
}

var order = strings.Fields("line vol lock thread recover always")

var begins = map[string]string{"line": "cells", "vol": "cells", "lock": "locks", "thread": "thread", "recover": "open", "always": "claim"}

type model struct {
	s    string
	l    []api.Token
	i    int
	rank int // which parts may still come
	open int // the byte of a thread's {
	p    api.Prog
	at   int
}

func modelParse(s string) (api.Prog, api.Errno, int) {
	l, e, at := scan.Scan(s)
	if e != api.OK {
		return api.Prog{}, e, at
	}
	m := &model{s: s, l: l}
	for state := "top"; state != "top" || m.i < len(l); {
		var e api.Errno
		if state, e = m.move(state); e != api.OK {
			return api.Prog{}, e, m.at
		}
	}
	return m.p, api.OK, 0
}

// class is what a token is to a state.
func (m *model) class() string {
	switch token := m.l[m.i]; {
	case token.Kind == api.Number:
		return "number"
	case token.Kind == api.Word && !slices.Contains(strings.Fields(keptWords), token.Text):
		return "name"
	default:
		return token.Text
	}
}

func (m *model) behind() int {
	if len(m.l) == 0 {
		return 0
	}
	last := m.l[len(m.l)-1]
	return last.At + len(last.Text)
}

func (m *model) move(state string) (string, api.Errno) {
	if m.i >= len(m.l) {
		m.at = m.behind()
		return "", api.ErrEnd
	}
	token, class := m.l[m.i], m.class()
	m.at = token.At
	switch state {
	case "top":
		rank := slices.Index(order, class)
		if rank < m.rank {
			return "", api.ErrToken
		}
		m.rank = rank
		if class == "recover" {
			m.rank++
		}
		m.begin(class, token.At)
		m.i++
		return begins[class], api.OK
	case "block":
		if class == "reg" {
			m.i++
			return "regs", api.OK
		}
		return m.statements()
	case "statements":
		return m.statements()
	case "claim":
		nodes, to, e, at := expr.Parse(m.l, m.i)
		m.p.Claims[len(m.p.Claims)-1].E = nodes
		m.i, m.at = to, at
		return "claimed", e
	}
	to, is := moves[state][class]
	if !is {
		return "", api.ErrToken
	}
	m.keep(state, token)
	m.i++
	return to, api.OK
}

func (m *model) begin(word string, at int) {
	switch word {
	case "line":
		m.p.Lines = append(m.p.Lines, nil)
	case "recover":
		m.p.Recover = append(m.p.Recover, api.Thread{At: at})
	case "always":
		m.p.Claims = append(m.p.Claims, api.Claim{At: at})
	}
}

func (m *model) cells() *[]api.Cell {
	if order[m.rank] == "line" {
		return &m.p.Lines[len(m.p.Lines)-1]
	}
	return &m.p.Vols
}

func (m *model) of() *api.Thread {
	if len(m.p.Recover) > 0 {
		return &m.p.Recover[0]
	}
	return &m.p.Threads[len(m.p.Threads)-1]
}

func (m *model) keep(state string, token api.Token) {
	switch state {
	case "cells":
		*m.cells() = append(*m.cells(), api.Cell{Name: token.Text, At: token.At})
	case "number":
		(*m.cells())[len(*m.cells())-1].N = token.N
	case "locks":
		m.p.Locks = append(m.p.Locks, api.Cell{Name: token.Text, At: token.At})
	case "thread":
		m.p.Threads = append(m.p.Threads, api.Thread{Name: token.Text, At: token.At})
	case "open":
		m.open = token.At
	case "regs":
		m.of().Regs = append(m.of().Regs, token.Text)
	}
}

// statements reads a text in which nothing but the { is ahead of them.
func (m *model) statements() (string, api.Errno) {
	at := m.l[m.i].At
	rest, _, _ := scan.Scan(strings.Repeat(" ", m.open) + "{" + strings.Repeat(" ", at-m.open-1) + m.s[at:])
	body, to, e, at := stmt.Parse(rest, 0)
	m.of().Body = body
	m.i += to - 1
	m.at = at
	return "top", e
}

// told is all of a program, places too; a nil list is as an empty one.
func told(p api.Prog) string { return fmt.Sprintf("%+v", p) }

// rows are the lines of what is shown of a program, whose statements are handed in as they are shown.
func rows(p api.Prog) []string {
	var all []string
	for i, cells := range append(slices.Clone(p.Lines), p.Vols, p.Locks) {
		word := "line"
		if i >= len(p.Lines) {
			word = []string{"vol", "lock"}[i-len(p.Lines)]
		}
		row := ""
		for _, c := range cells {
			row += ", " + c.Name
			if c.N > 0 {
				row += " = " + strconv.Itoa(c.N)
			}
		}
		if len(cells) > 0 {
			all = append(all, word+row[1:]+";")
		}
	}
	for _, t := range append(slices.Clone(p.Threads), p.Recover...) {
		if t.Name == "" {
			all = append(all, "recover {")
		} else {
			all = append(all, "thread "+t.Name+" {")
		}
		if len(t.Regs) > 0 {
			all = append(all, "  reg "+strings.Join(t.Regs, ", ")+";")
		}
		for _, row := range strings.Split(strings.TrimSuffix(stmt.Show(t.Body), "\n"), "\n") {
			if row != "" {
				all = append(all, "  "+row)
			}
		}
		all = append(all, "}")
	}
	for _, c := range p.Claims {
		all = append(all, "always "+expr.Show(c.E)+";")
	}
	return all
}

func shown(p api.Prog) string {
	return strings.Join(append(rows(p), ""), "\n")
}

// Wild texts: tokens, a blank between each two.

func one(r *rand.Rand, of string) string {
	l := strings.Fields(of)
	return l[r.Intn(len(l))]
}

func several(r *rand.Rand, least, most int, make func() string) []string {
	var l []string
	for range least + r.Intn(most-least+1) {
		l = append(l, make())
	}
	return l
}

func wildName(r *rand.Rand) string { return one(r, "a b c r s _ x1 lines abcdefghijklmnop") }

func wildCell(r *rand.Rand) string {
	name := wildName(r)
	if r.Intn(2) == 0 {
		name += " = " + one(r, "0 1 2 007 4294967296")
	}
	return name
}

func wildExpr(r *rand.Rand) string {
	switch r.Intn(6) {
	case 0:
		return one(r, "! -") + " ( " + wildExpr(r) + " )"
	case 1, 2:
		return "( " + wildExpr(r) + " ) " + one(r, "+ - * / % == != < <= && ||") + " " + one(r, "a r 3")
	}
	return one(r, "r s a 0 1 12")
}

func wildBody(r *rand.Rand, deep int, loop bool) string {
	var l []string
	for range r.Intn(5) {
		kind := r.Intn(10)
		switch {
		case kind < 3:
			l = append(l, wildName(r)+" = "+wildExpr(r)+" ;")
		case kind < 5:
			l = append(l, one(r, "mfence sfence")+" ;")
		case kind < 6:
			l = append(l, "store a = "+wildExpr(r)+" ; load r = a ; cas r = a , 1 , "+wildExpr(r)+" ; check r ; "+one(r, "flush opt take give")+" a ;")
		case kind < 7 && loop:
			l = append(l, "break ;")
		case kind < 8 && deep > 0:
			l = append(l, "if "+wildExpr(r)+" { "+wildBody(r, deep-1, loop)+" } else { "+wildBody(r, deep-1, loop)+" }")
		case deep > 0:
			l = append(l, "loop "+one(r, "1 2 8")+" { "+wildBody(r, deep-1, true)+" }")
		}
	}
	return strings.Join(l, " ")
}

func wildBlock(r *rand.Rand) string {
	regs := ""
	if r.Intn(2) == 0 {
		regs = "reg " + strings.Join(several(r, 1, 3, func() string { return wildName(r) }), " , ") + " ; "
	}
	return "{ " + regs + wildBody(r, r.Intn(6), false) + " }"
}

// wildText is that of a program, but for a deep or a big block now and then.
func wildText(r *rand.Rand) string {
	cells := func(word string) func() string {
		return func() string {
			return word + " " + strings.Join(several(r, 1, 3, func() string { return wildCell(r) }), " , ") + " ;"
		}
	}
	return strings.Join(slices.Concat(
		several(r, 0, 3, cells("line")),
		several(r, 0, 2, cells("vol")),
		several(r, 0, 2, func() string {
			return "lock " + strings.Join(several(r, 1, 3, func() string { return wildName(r) }), " , ") + " ;"
		}),
		several(r, 0, 3, func() string { return "thread " + wildName(r) + " " + wildBlock(r) }),
		several(r, 0, 1, func() string { return "recover " + wildBlock(r) }),
		several(r, 0, 3, func() string { return "always " + wildExpr(r) + " ;" }),
	), " ")
}

// spread is the same text with other blanks, and remarks, between its tokens.
func spread(r *rand.Rand, s string) string {
	var told strings.Builder
	for _, text := range strings.Fields(s) {
		told.WriteString(text)
		told.WriteString([]string{" ", "  ", "\n", "\t", "\r\n", " // ; }\n", " //\n "}[max(0, r.Intn(12)-5)])
	}
	return told.String()
}

// What a program holds, by a walk over all of it.

// walk calls visit with each value in a program, and the name of the field that it is, or is within.
func walk(v reflect.Value, field string, visit func(v reflect.Value, field string)) {
	visit(v, field)
	switch v.Kind() {
	case reflect.Struct:
		for i := range v.NumField() {
			walk(v.Field(i), v.Type().Field(i).Name, visit)
		}
	case reflect.Slice:
		for i := range v.Len() {
			walk(v.Index(i), field, visit)
		}
	}
}

// values are all values of a kind in a program; of numbers the places alone, or all others.
func values(p *api.Prog, kind reflect.Kind, at bool) []reflect.Value {
	var all []reflect.Value
	walk(reflect.ValueOf(p).Elem(), "", func(v reflect.Value, field string) {
		if v.Kind() == kind && (field == "At") == at {
			all = append(all, v)
		}
	})
	return all
}

// memory is a list's room, from its first byte to behind its last one.
type memory struct{ from, to uintptr }

func rooms(ps ...*api.Prog) []memory {
	var all []memory
	for _, p := range ps {
		for _, v := range values(p, reflect.Slice, false) {
			if v.Cap() > 0 {
				all = append(all, memory{v.Pointer(), v.Pointer() + uintptr(v.Cap())*v.Type().Elem().Size()})
			}
		}
	}
	return all
}

// apart tells whether no two lists share room.
func apart(all []memory) bool {
	slices.SortFunc(all, func(a, b memory) int { return int(a.from) - int(b.from) })
	for i := 1; i < len(all); i++ {
		if all[i].from < all[i-1].to {
			return false
		}
	}
	return true
}
