package legal_test

import (
	"fmt"
	"math/rand"
	"reflect"
	"slices"
	"strings"

	"leadline/api"
	"leadline/prog"
)

// What the chapter says, told another way: all that is wrong is gathered, each with the rank of its rule, and the first one of the least rank is told.

// The ranks, in the document's order.
const (
	noForm = iota
	tooBig
	tooLong
	nameTwice
	regTwice
	noName
)

var errnos = []api.Errno{api.ErrForm, api.ErrBig, api.ErrRange, api.ErrTwice, api.ErrTwice, api.ErrName}

type wrong struct{ rank, at int }

func modelCheck(p api.Prog) (api.Errno, int) {
	if !prog.Right(p) {
		return api.ErrForm, 0
	}
	l := slices.Concat(modelBig(p), modelLoops(p), modelTwice(p), modelRegs(p), modelUses(p))
	if len(l) == 0 {
		return api.OK, 0
	}
	slices.SortStableFunc(l, func(a, b wrong) int { return a.rank - b.rank })
	return errnos[l[0].rank], l[0].at
}

func modelBig(p api.Prog) []wrong {
	var l []wrong
	atMost := func(n, most int) {
		if n > most {
			l = append(l, wrong{tooBig, 0})
		}
	}
	atMost(len(p.Lines), 4)
	for _, cells := range p.Lines {
		atMost(len(cells), 4)
	}
	atMost(len(p.Vols), 4)
	atMost(len(p.Locks), 2)
	atMost(len(p.Threads), 3)
	atMost(1-len(p.Threads), 0)
	atMost(len(p.Claims), 4)
	for _, t := range all(p) {
		atMost(len(t.Regs), 4)
	}
	return l
}

func all(p api.Prog) []api.Thread { return append(slices.Clone(p.Threads), p.Recover...) }

// modelLoops asks of each loop which ones it stands in.
func modelLoops(p api.Prog) []wrong {
	var l []wrong
	for _, t := range all(p) {
		for i, inner := range t.Body {
			if inner.Kind != api.Loop {
				continue
			}
			rounds := inner.N
			for k, outer := range t.Body[:i] {
				if outer.Kind == api.Loop && i <= k+outer.Body {
					rounds *= outer.N
				}
			}
			if rounds > 64 {
				l = append(l, wrong{tooLong, inner.At})
			}
		}
	}
	return l
}

func names(cells []api.Cell) []string {
	var l []string
	for _, c := range cells {
		l = append(l, c.Name)
	}
	return l
}

func staying(p api.Prog) []string {
	var l []string
	for _, cells := range p.Lines {
		l = append(l, names(cells)...)
	}
	return l
}

func modelTwice(p api.Prog) []wrong {
	l := append(staying(p), append(names(p.Vols), names(p.Locks)...)...)
	var at []int
	for _, cells := range append(slices.Clone(p.Lines), p.Vols, p.Locks) {
		for _, c := range cells {
			at = append(at, c.At)
		}
	}
	for _, t := range p.Threads {
		l, at = append(l, t.Name), append(at, t.At)
	}
	var found []wrong
	for i, name := range l {
		if slices.Contains(l[:i], name) {
			found = append(found, wrong{nameTwice, at[i]})
		}
	}
	return found
}

func modelRegs(p api.Prog) []wrong {
	var found []wrong
	for _, t := range all(p) {
		for i, name := range t.Regs {
			if slices.Contains(slices.Concat(staying(p), names(p.Vols), names(p.Locks), t.Regs[:i]), name) {
				found = append(found, wrong{regTwice, t.At})
			}
		}
	}
	return found
}

// modelUse is a use: the name, and the lists of which one must have it.
type modelUse struct {
	name string
	at   int
	of   [][]string
}

// letters tell of each kind of a statement what its Name must be: a cell (that does not stay, v, or does, s), or a lock (l).
var letters = map[int]string{api.Load: "sv", api.Store: "sv", api.Cas: "sv", api.Flush: "s", api.Opt: "s", api.Take: "l", api.Give: "l"}

func allUses(p api.Prog) []modelUse {
	lists := map[rune][]string{'s': staying(p), 'v': names(p.Vols), 'l': names(p.Locks)}
	var l []modelUse
	vars := func(nodes []api.Node, of ...[]string) {
		for _, n := range nodes {
			if n.Op == api.Var {
				l = append(l, modelUse{n.Name, n.At, of})
			}
		}
	}
	for _, t := range all(p) {
		for _, s := range t.Body {
			if slices.Contains([]int{api.Set, api.Load, api.Cas}, s.Kind) {
				l = append(l, modelUse{s.Reg, s.At, [][]string{t.Regs}})
			}
			if letters[s.Kind] != "" {
				u := modelUse{s.Name, s.At, nil}
				for _, letter := range letters[s.Kind] {
					u.of = append(u.of, lists[letter])
				}
				l = append(l, u)
			}
			vars(s.E, t.Regs)
			vars(s.F, t.Regs)
		}
	}
	for _, c := range p.Claims {
		vars(c.E, staying(p))
	}
	return l
}

func modelUses(p api.Prog) []wrong {
	var found []wrong
	for _, u := range allUses(p) {
		if !slices.ContainsFunc(u.of, func(l []string) bool { return slices.Contains(l, u.name) }) {
			found = append(found, wrong{noName, u.at})
		}
	}
	return found
}

// modelLines is each cell's line.
func modelLines(p api.Prog) []int {
	var l []int
	for i, cells := range p.Lines {
		for range cells {
			l = append(l, i)
		}
	}
	for i := range p.Vols {
		l = append(l, len(p.Lines)+i)
	}
	return l
}

func told(p api.Prog) string { return fmt.Sprintf("%+v", p) }

// Wild texts. Names are few, so that some are there twice, or are used for what they are not; mostly they are those that have their right kind.

type wild struct {
	*rand.Rand
	errors int // of a hundred names so many are any one
}

const anyName = "a b c d v w m n t u r s q"

func (w wild) one(of string) string {
	l := strings.Fields(of)
	return l[w.Intn(len(l))]
}

func (w wild) name(of string) string {
	if w.Intn(100) < w.errors {
		of = anyName
	}
	return w.one(of)
}

// some are so many of them, mostly each once.
func (w wild) some(of string, least int) []string {
	l := strings.Fields(of)
	w.Shuffle(len(l), func(i, k int) { l[i], l[k] = l[k], l[i] })
	l = l[:least+w.Intn(len(l)-least+1)]
	for i := range l {
		if w.Intn(200) < w.errors {
			l[i] = w.one(anyName)
		}
	}
	return l
}

func (w wild) expr(vars string) string {
	switch w.Intn(6) {
	case 0:
		return w.one("! -") + "(" + w.expr(vars) + ")"
	case 1, 2:
		return "(" + w.expr(vars) + ")" + w.one("+ - * / % == != < <= && ||") + w.name(vars)
	case 3:
		return w.one("0 1 12")
	}
	return w.name(vars)
}

func (w wild) body(deep int, loop bool) string {
	var l strings.Builder
	for range w.Intn(4) {
		reg, e := w.name("r s"), w.expr("r s")
		switch w.Intn(14) {
		case 0:
			l.WriteString(reg + " = " + e + "; ")
		case 1:
			l.WriteString("load " + reg + " = " + w.name("a b v") + "; ")
		case 2:
			l.WriteString("store " + w.name("a b v") + " = " + e + "; ")
		case 3:
			l.WriteString("cas " + reg + " = " + w.name("a b v") + ", " + e + ", " + w.expr("r s") + "; ")
		case 4:
			l.WriteString(w.one("flush opt") + " " + w.name("a b") + "; ")
		case 5:
			l.WriteString(w.one("sfence; mfence;") + " ")
		case 6:
			l.WriteString(w.one("take give") + " " + w.name("m") + "; ")
		case 7:
			l.WriteString("check " + e + "; ")
		case 8:
			if loop {
				l.WriteString("break; ")
			}
		case 9, 10:
			if deep > 0 {
				l.WriteString("if " + e + " { " + w.body(deep-1, loop) + "} else { " + w.body(deep-1, loop) + "} ")
			}
		default:
			if deep > 0 {
				l.WriteString("loop " + w.one("2 3 4 8") + " { " + w.body(deep-1, true) + "} ")
			}
		}
	}
	return l.String()
}

func (w wild) block() string {
	more := "q t"
	if w.Intn(100) < w.errors {
		more = "q x y"
	}
	return "{ reg " + strings.Join(append([]string{"r", "s"}, w.some(more, 0)...), ", ") + "; " + w.body(4, false) + "} "
}

func (w wild) cells(word string, l []string) string {
	if len(l) == 0 {
		return ""
	}
	for i := range l {
		if word != "lock" && w.Intn(2) == 0 {
			l[i] += " = " + w.one("0 1 2 7 4294967296")
		}
	}
	return word + " " + strings.Join(l, ", ") + "; "
}

// text is that of a program; now and then it has too many of something.
func (w wild) text() string {
	var s strings.Builder
	s.WriteString(w.cells("line", append([]string{"a"}, w.some("c d", 0)...)))
	s.WriteString(w.cells("line", append([]string{"b"}, w.some("e f", 0)...)))
	s.WriteString(w.cells("vol", append([]string{"v"}, w.some("w x1 x2", 0)...)))
	s.WriteString(w.cells("lock", append([]string{"m"}, w.some("n", 0)...)))
	for _, name := range w.some("t u", 1) {
		s.WriteString("thread " + name + " " + w.block())
	}
	if w.Intn(2) == 0 {
		s.WriteString("recover " + w.block())
	}
	for range w.Intn(3) {
		s.WriteString("always " + w.expr("a b") + "; ")
	}
	return s.String()
}

// What a program holds, by a walk over all of it.

func walk(v reflect.Value, visit func(v reflect.Value)) {
	visit(v)
	switch v.Kind() {
	case reflect.Struct:
		for i := range v.NumField() {
			walk(v.Field(i), visit)
		}
	case reflect.Slice:
		for i := range v.Len() {
			walk(v.Index(i), visit)
		}
	}
}

// texts are all names in a program that are not empty.
func texts(p *api.Prog) []reflect.Value {
	var l []reflect.Value
	walk(reflect.ValueOf(p).Elem(), func(v reflect.Value) {
		if v.Kind() == reflect.String && v.Len() > 0 {
			l = append(l, v)
		}
	})
	return l
}

// roomy is a copy of a program, of whose lists each has spare room, which is filled too.
func roomy(p api.Prog) api.Prog {
	return spare(reflect.ValueOf(p)).Interface().(api.Prog)
}

func spare(v reflect.Value) reflect.Value {
	got := reflect.New(v.Type()).Elem()
	switch v.Kind() {
	case reflect.Struct:
		for i := range v.NumField() {
			got.Field(i).Set(spare(v.Field(i)))
		}
	case reflect.Slice:
		got.Set(reflect.MakeSlice(v.Type(), v.Len()+3, v.Len()+3))
		for i := range v.Len() {
			got.Index(i).Set(spare(v.Index(i)))
		}
		for i := v.Len(); i < got.Len(); i++ {
			fill(got.Index(i))
		}
		got.SetLen(v.Len())
	default:
		got.Set(v)
	}
	return got
}

// fill puts something that is not zero into each number and text.
func fill(v reflect.Value) {
	switch v.Kind() {
	case reflect.Struct:
		for i := range v.NumField() {
			fill(v.Field(i))
		}
	case reflect.String:
		v.SetString("spare")
	case reflect.Int:
		v.SetInt(77)
	}
}

// wholly is all that a program holds, and what is in the spare room of its lists.
func wholly(p api.Prog) string {
	var s strings.Builder
	walk(reflect.ValueOf(p), func(v reflect.Value) {
		if v.Kind() == reflect.Slice {
			fmt.Fprintf(&s, "%d %+v\n", v.Len(), v.Slice3(0, v.Cap(), v.Cap()).Interface())
		}
	})
	return s.String()
}
