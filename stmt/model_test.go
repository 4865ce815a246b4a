package stmt_test

import (
	"slices"
	"strconv"
	"strings"

	"leadline/api"
	"leadline/expr"
)

// What the chapter says, told another way: with a pile of what must still come, with places of blocks, and with trees.

const keptWords = "line vol lock thread reg load store cas flush opt sfence mfence take give if else loop break check recover always"

func isName(s string) bool {
	return s != "" && len(s) <= 16 && strings.Trim(s, "abcdefghijklmnopqrstuvwxyz_0123456789") == "" && !strings.Contains("0123456789", s[:1]) && !slices.Contains(strings.Fields(keptWords), s)
}

// todo is something that must come: a text that stands for itself, or what <> tell, of the statement at a place.
type todo struct {
	what   string
	of     int
	within int
	loop   bool
}

type pile struct {
	l    []api.Token
	i    int
	todo []todo
	out  []api.Stmt
	at   int
}

func (p *pile) must(what ...todo) {
	slices.Reverse(what)
	p.todo = append(p.todo, what...)
}

func modelParse(l []api.Token, i int) ([]api.Stmt, int, api.Errno, int) {
	if i < 0 {
		return nil, 0, api.ErrArg, 0
	}
	p := &pile{l: l, i: i}
	p.must(todo{what: "{"}, todo{what: "<statements>"})
	for len(p.todo) > 0 {
		next := p.todo[len(p.todo)-1]
		p.todo = p.todo[:len(p.todo)-1]
		if e := p.come(next); e != api.OK {
			return nil, 0, e, p.at
		}
	}
	if len(p.out) > 40 {
		return nil, 0, api.ErrBig, l[i].At
	}
	return p.out, p.i, api.OK, 0
}

// here is the word, or the sign, at which the pile stands.
func (p *pile) here() string {
	if p.i < len(p.l) && (p.l[p.i].Kind == api.Word || p.l[p.i].Kind == api.Sign) {
		return p.l[p.i].Text
	}
	return ""
}

func (p *pile) wrong() api.Errno {
	if p.i < len(p.l) {
		p.at = p.l[p.i].At
		return api.ErrToken
	}
	if len(p.l) > 0 {
		last := p.l[len(p.l)-1]
		p.at = last.At + len(last.Text)
	}
	return api.ErrEnd
}

func (p *pile) come(next todo) api.Errno {
	switch next.what {
	case "<statements>":
		return p.statements(next)
	case "<body>":
		p.out[next.of].Body = len(p.out) - 1 - next.of
		if p.out[next.of].Kind == api.If && p.here() == "else" {
			p.i++
			p.must(todo{what: "{", within: next.within + 1}, todo{what: "<statements>", within: next.within + 1, loop: next.loop}, todo{what: "<else>", of: next.of})
		}
		return api.OK
	case "<else>":
		p.out[next.of].Else = len(p.out) - 1 - next.of - p.out[next.of].Body
		return api.OK
	case "<reg>", "<name>":
		if p.i >= len(p.l) || p.l[p.i].Kind != api.Word || !isName(p.here()) {
			return p.wrong()
		}
		if next.what == "<reg>" {
			p.out[next.of].Reg = p.here()
		} else {
			p.out[next.of].Name = p.here()
		}
		p.i++
		return api.OK
	case "<e>", "<f>":
		nodes, to, e, at := expr.Parse(p.l, p.i)
		p.at = at
		if next.what == "<e>" {
			p.out[next.of].E = nodes
		} else {
			p.out[next.of].F = nodes
		}
		p.i = to
		return e
	case "<number>":
		if p.i >= len(p.l) || p.l[p.i].Kind != api.Number {
			return p.wrong()
		}
		n := p.l[p.i].N
		if n < 1 || n > 8 {
			p.at = p.l[p.i].At
			return api.ErrRange
		}
		p.out[next.of].N = n
		p.i++
		return api.OK
	}
	if p.here() != next.what {
		return p.wrong()
	}
	if next.what == "{" && next.within > 12 {
		p.at = p.l[p.i].At
		return api.ErrDeep
	}
	p.i++
	return api.OK
}

// statements asks for the next statement, and then for those behind it; or for the sign that closes.
func (p *pile) statements(next todo) api.Errno {
	word := p.here()
	if word == "}" {
		p.i++
		return api.OK
	}
	all := map[string][]string{
		"load": {"load", "<reg>", "=", "<name>", ";"}, "store": {"store", "<name>", "=", "<e>", ";"},
		"cas":   {"cas", "<reg>", "=", "<name>", ",", "<e>", ",", "<f>", ";"},
		"flush": {"flush", "<name>", ";"}, "opt": {"opt", "<name>", ";"}, "take": {"take", "<name>", ";"}, "give": {"give", "<name>", ";"},
		"sfence": {"sfence", ";"}, "mfence": {"mfence", ";"}, "break": {"break", ";"}, "check": {"check", "<e>", ";"},
		"if":   {"if", "<e>", "{", "<statements>", "<body>"},
		"loop": {"loop", "<number>", "{", "<statements>", "<body>"},
	}
	row := all[word]
	kind := slices.Index(strings.Fields("0 set load store cas flush opt sfence mfence take give if loop break check"), word)
	if isName(word) && p.l[p.i].Kind == api.Word {
		row, kind = []string{"<reg>", "=", "<e>", ";"}, api.Set
	}
	if row == nil || word == "break" && !next.loop {
		return p.wrong()
	}
	of := len(p.out)
	p.out = append(p.out, api.Stmt{Kind: kind, At: p.l[p.i].At})
	var what []todo
	for _, x := range row {
		one := todo{what: x, of: of, within: next.within, loop: next.loop}
		if x == "{" || x == "<statements>" {
			one.within++
			one.loop = next.loop || kind == api.Loop
		}
		what = append(what, one)
	}
	p.must(append(what, next)...)
	return api.OK
}

// letters are those of the chapter's table.
func letters(kind int) string {
	switch kind {
	case api.Set:
		return "re"
	case api.Load:
		return "rn"
	case api.Store:
		return "ne"
	case api.Cas:
		return "rnef"
	case api.Flush, api.Opt, api.Take, api.Give:
		return "n"
	case api.If:
		return "eb"
	case api.Loop:
		return "kb"
	case api.Check:
		return "e"
	}
	return ""
}

// span is a block: the places of its statements, and the kind of the one whose it is.
type span struct{ from, to, kind int }

// spans are all blocks; none, if there are some that are not whole.
func spans(l []api.Stmt) ([]span, bool) {
	var all []span
	for i, s := range l {
		if s.Kind != api.If && s.Kind != api.Loop {
			if s.Body != 0 || s.Else != 0 {
				return nil, false
			}
			continue
		}
		if s.Body < 0 || s.Else < 0 || s.Body > len(l) || s.Else > len(l) || s.Kind == api.Loop && s.Else > 0 {
			return nil, false
		}
		all = append(all, span{i + 1, i + 1 + s.Body, s.Kind}, span{i + 1 + s.Body, i + 1 + s.Body + s.Else, s.Kind})
		end := len(l)
		for _, x := range all {
			if x.from <= i && i < x.to {
				end = min(end, x.to)
			}
		}
		if i+1+s.Body+s.Else > end {
			return nil, false
		}
	}
	return all, true
}

// modelDepth is -1 of those that are not right.
func modelDepth(l []api.Stmt) int {
	all, whole := spans(l)
	if len(l) > 40 || !whole {
		return -1
	}
	depth := 0
	for i, s := range l {
		within, loop := 0, false
		for _, x := range all {
			if x.from <= i && i < x.to {
				within++
				loop = loop || x.kind == api.Loop
			}
		}
		if !modelOwn(s) || s.Kind == api.Break && !loop {
			return -1
		}
		if s.Kind == api.If || s.Kind == api.Loop {
			depth = max(depth, within+1)
		}
	}
	if depth > 12 {
		return -1
	}
	return depth
}

// modelOwn tells whether a statement has what its kind has, but for its blocks.
func modelOwn(s api.Stmt) bool {
	if s.Kind < api.Set || s.Kind > api.Check || s.At < 0 || s.At > 4000 {
		return false
	}
	has := letters(s.Kind)
	for _, x := range []struct {
		letter      string
		there, good bool
	}{
		{"r", s.Reg != "", isName(s.Reg)},
		{"n", s.Name != "", isName(s.Name)},
		{"e", len(s.E) > 0, expr.Right(s.E)},
		{"f", len(s.F) > 0, expr.Right(s.F)},
		{"k", s.N != 0, s.N >= 1 && s.N <= 8},
	} {
		wanted := strings.Contains(has, x.letter)
		if wanted && !x.good || !wanted && x.there {
			return false
		}
	}
	return true
}

// tree is a statement with those of its blocks.
type tree struct {
	s           api.Stmt
	then, other []tree
}

func flat(l []tree) []api.Stmt {
	var all []api.Stmt
	for _, t := range l {
		then, other := flat(t.then), flat(t.other)
		t.s.Body, t.s.Else = len(then), len(other)
		all = append(append(append(all, t.s), then...), other...)
	}
	return all
}

// rows are the lines of what is shown.
func rows(l []tree) []string {
	var all []string
	for _, t := range l {
		s := t.s
		e, f := expr.Show(s.E), expr.Show(s.F)
		switch s.Kind {
		case api.Set:
			all = append(all, s.Reg+" = "+e+";")
		case api.Load:
			all = append(all, "load "+s.Reg+" = "+s.Name+";")
		case api.Store:
			all = append(all, "store "+s.Name+" = "+e+";")
		case api.Cas:
			all = append(all, "cas "+s.Reg+" = "+s.Name+", "+e+", "+f+";")
		case api.Flush:
			all = append(all, "flush "+s.Name+";")
		case api.Opt:
			all = append(all, "opt "+s.Name+";")
		case api.Sfence:
			all = append(all, "sfence;")
		case api.Mfence:
			all = append(all, "mfence;")
		case api.Take:
			all = append(all, "take "+s.Name+";")
		case api.Give:
			all = append(all, "give "+s.Name+";")
		case api.Break:
			all = append(all, "break;")
		case api.Check:
			all = append(all, "check "+e+";")
		case api.Loop:
			all = append(append(all, "loop "+strconv.Itoa(s.N)+" {"), right(rows(t.then))...)
			all = append(all, "}")
		case api.If:
			all = append(append(all, "if "+e+" {"), right(rows(t.then))...)
			if len(t.other) > 0 {
				all = append(append(all, "} else {"), right(rows(t.other))...)
			}
			all = append(all, "}")
		}
	}
	return all
}

func right(rows []string) []string {
	var all []string
	for _, row := range rows {
		all = append(all, "  "+row)
	}
	return all
}

func shown(l []tree) string {
	all := append(rows(l), "")
	return strings.Join(all, "\n")
}
