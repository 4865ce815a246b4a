package expr_test

import (
	"slices"
	"strconv"
	"strings"

	"leadline/api"
)

// What the chapter says, told another way: with piles of what is open, and with trees.

type tree struct {
	node api.Node
	kids []tree
}

func (t tree) flat() []api.Node {
	l := []api.Node{t.node}
	for _, kid := range t.kids {
		l = append(l, kid.flat()...)
	}
	return l
}

func (t tree) depth() int {
	d := 0
	for _, kid := range t.kids {
		d = max(d, kid.depth())
	}
	return d + 1
}

func (t tree) show() string {
	var texts []string
	for _, kid := range t.kids {
		s := kid.show()
		if len(kid.kids) == 2 {
			s = "(" + s + ")"
		}
		texts = append(texts, s)
	}
	switch len(texts) {
	case 1:
		return signOf()[t.node.Op] + texts[0]
	case 2:
		return strings.Join(texts, " "+signOf()[t.node.Op]+" ")
	}
	if t.node.Op == api.Num {
		return strconv.Itoa(t.node.N)
	}
	return t.node.Name
}

func signOf() map[int]string {
	return map[int]string{
		api.Neg: "-", api.Not: "!", api.Add: "+", api.Sub: "-", api.Mul: "*", api.Div: "/", api.Mod: "%",
		api.Eq: "==", api.Ne: "!=", api.Lt: "<", api.Le: "<=", api.And: "&&", api.Or: "||",
	}
}

func operands(op int) int {
	switch op {
	case api.Num, api.Var:
		return 0
	case api.Neg, api.Not:
		return 1
	case api.Add, api.Sub, api.Mul, api.Div, api.Mod, api.Eq, api.Ne, api.Lt, api.Le, api.And, api.Or:
		return 2
	}
	return -1
}

// grow is the tree with which nodes begin, and the nodes behind it.
func grow(l []api.Node) (tree, []api.Node, bool) {
	if len(l) == 0 || operands(l[0].Op) < 0 {
		return tree{}, nil, false
	}
	t := tree{node: l[0]}
	rest := l[1:]
	for range operands(l[0].Op) {
		kid, behind, ok := grow(rest)
		if !ok {
			return tree{}, nil, false
		}
		t.kids = append(t.kids, kid)
		rest = behind
	}
	return t, rest, true
}

func modelEnd(l []api.Node, i int) int {
	if i < 0 || i >= len(l) {
		return -1
	}
	if _, rest, ok := grow(l[i:]); ok {
		return len(l) - len(rest)
	}
	return -1
}

func modelRight(l []api.Node) bool {
	t, rest, ok := grow(l)
	if !ok || len(rest) > 0 || len(l) > 40 || t.depth() > 12 {
		return false
	}
	for _, n := range l {
		clean := api.Node{Op: n.Op, At: n.At}
		switch n.Op {
		case api.Num:
			clean.N = n.N
		case api.Var:
			clean.Name = n.Name
		}
		if n != clean || n.N < 0 || n.N > 1<<32 || n.At < 0 || n.At > 4000 || n.Op == api.Var && !isName(n.Name) {
			return false
		}
	}
	return true
}

func isName(s string) bool {
	kept := strings.Fields("line vol lock thread reg load store cas flush opt sfence mfence take give if else loop break check recover always")
	return s != "" && len(s) <= 16 && strings.Trim(s, "abcdefghijklmnopqrstuvwxyz_0123456789") == "" && !strings.Contains("0123456789", s[:1]) && !slices.Contains(kept, s)
}

// pile reads tokens from the left with what is not done yet on a pile: brackets, signs of one operand and of two.
type pile struct {
	l       []api.Token
	i       int
	open    []api.Node // of a bracket the Op is 0
	done    []tree
	closing int // brackets that are open
}

func modelParse(l []api.Token, i int) ([]api.Node, int, api.Errno, int) {
	if i < 0 {
		return nil, 0, api.ErrArg, 0
	}
	p := &pile{l: l, i: i}
	if e := p.read(); e != api.OK {
		return nil, 0, e, modelPlace(l, p.i)
	}
	if p.done[0].depth() > 12 {
		return nil, 0, api.ErrDeep, l[i].At
	}
	nodes := p.done[0].flat()
	if len(nodes) > 40 {
		return nil, 0, api.ErrBig, l[i].At
	}
	return nodes, p.i, api.OK, 0
}

func modelPlace(l []api.Token, i int) int {
	switch {
	case i < len(l):
		return l[i].At
	case len(l) == 0:
		return 0
	}
	return l[len(l)-1].At + len(l[len(l)-1].Text)
}

func (p *pile) read() api.Errno {
	for {
		if e := p.operand(); e != api.OK {
			return e
		}
		more, e := p.behind()
		if e != api.OK || !more {
			return e
		}
	}
}

// here is the sign, or the bracket, at which the pile stands.
func (p *pile) here() string {
	if p.i < len(p.l) && (p.l[p.i].Kind == api.Word || p.l[p.i].Kind == api.Sign) {
		return p.l[p.i].Text
	}
	return ""
}

func (p *pile) wrong() api.Errno {
	if p.i >= len(p.l) {
		return api.ErrEnd
	}
	return api.ErrToken
}

func (p *pile) operand() api.Errno {
	for slices.Contains([]string{"(", "!", "-"}, p.here()) {
		within := 0
		for _, n := range p.open {
			if n.Op == 0 || operands(n.Op) == 1 {
				within++
			}
		}
		if within >= 12 {
			return api.ErrDeep
		}
		n := api.Node{At: p.l[p.i].At}
		switch p.here() {
		case "(":
			p.closing++
		case "!":
			n.Op = api.Not
		case "-":
			n.Op = api.Neg
		}
		p.open = append(p.open, n)
		p.i++
	}
	if p.i >= len(p.l) {
		return api.ErrEnd
	}
	switch x := p.l[p.i]; {
	case x.Kind == api.Number:
		p.done = append(p.done, tree{node: api.Node{Op: api.Num, N: x.N, At: x.At}})
	case x.Kind == api.Word && isName(x.Text):
		p.done = append(p.done, tree{node: api.Node{Op: api.Var, Name: x.Text, At: x.At}})
	default:
		return api.ErrToken
	}
	p.i++
	p.reduce(6)
	return api.OK
}

// behind reads brackets that close, and the sign of two operands behind them, if there is one.
func (p *pile) behind() (bool, api.Errno) {
	for p.closing > 0 && p.here() == ")" {
		p.reduce(0)
		p.open = p.open[:len(p.open)-1]
		p.closing--
		p.i++
		p.reduce(6)
	}
	for op, text := range signOf() {
		if operands(op) != 2 || text != p.here() {
			continue
		}
		p.reduce(bind(op) + 1)
		if bind(op) == 3 && len(p.open) > 0 && bind(p.open[len(p.open)-1].Op) == 3 {
			break
		}
		p.reduce(bind(op))
		p.open = append(p.open, api.Node{Op: op, At: p.l[p.i].At})
		p.i++
		return true, api.OK
	}
	if p.closing > 0 {
		return false, p.wrong()
	}
	p.reduce(0)
	return false, api.OK
}

// reduce does what is open, up to a bracket, or to what binds less.
func (p *pile) reduce(least int) {
	for len(p.open) > 0 {
		last := p.open[len(p.open)-1]
		if last.Op == 0 || bind(last.Op) < least {
			return
		}
		p.open = p.open[:len(p.open)-1]
		from := len(p.done) - operands(last.Op)
		kids := slices.Clone(p.done[from:])
		p.done = append(p.done[:from], tree{node: last, kids: kids})
	}
}

func bind(op int) int {
	switch op {
	case api.Or:
		return 1
	case api.And:
		return 2
	case api.Eq, api.Ne, api.Lt, api.Le:
		return 3
	case api.Add, api.Sub:
		return 4
	case api.Mul, api.Div, api.Mod:
		return 5
	case api.Neg, api.Not:
		return 6
	}
	return 0
}
