package vm_test

import (
	"fmt"
	"regexp"
	"slices"
	"strings"
)

// texter makes texts of programs that mostly come to a value: it knows of which
// kind a name and a function's value is: n (an int), l (a list of ints), t (a
// tuple of an int and such a list), b (true or false), x (anything).
type texter struct {
	*maker
	asks  bool
	bound map[string]string // a name's kind
	heads []head
	from  int // only functions from this one on are called, so that calls end
	names int
}

// head: of a function, its parameters' kinds and its value's.
type head struct{ name, params, value string }

// program: main, and some functions, each of which calls later ones, or itself
// for a lesser number.
func (m *texter) program(nest int) string {
	m.heads = []head{{"main", "", "x"}}
	for i := range m.Intn(4) {
		h := head{name: "f" + itoa(i), value: pick(m.maker, "n", "l", "t", "b", "x")}
		for range m.Intn(4) {
			h.params += pick(m.maker, "n", "l", "t", "x")
		}
		m.heads = append(m.heads, h)
	}
	var out []string
	for i, h := range m.heads {
		out = append(out, m.function(i, h, nest))
	}
	m.Shuffle(len(out), func(i, k int) { out[i], out[k] = out[k], out[i] })
	return strings.Join(out, "\n")
}

func (m *texter) function(i int, h head, nest int) string {
	m.bound, m.from = map[string]string{}, i+1
	var params []string
	for k, kind := range h.params {
		s := fmt.Sprint("P", k)
		m.bound[s] = string(kind)
		params = append(params, s)
	}
	head := h.name + "(" + strings.Join(params, ", ") + ") -> "
	if !strings.HasPrefix(h.params, "n") || m.Intn(8) == 0 {
		return head + m.body(h.value, nest) + "."
	}
	// it calls itself, mostly not last.
	args := []string{"P0 - 1"}
	for _, kind := range h.params[1:] {
		args = append(args, m.apart(func() string { return m.expr(string(kind), 1) }))
	}
	again := h.name + "(" + strings.Join(args, ", ") + ")"
	switch h.value {
	case "n":
		again = pick(m.maker, again, "1 + "+again, again+" - "+m.leaf("n"))
	case "l":
		again = pick(m.maker, again, "cons(P0, "+again+")", "tl("+again+")")
	case "x":
		again = pick(m.maker, again, "{P0, "+again+"}", "["+again+"]")
	}
	first := m.apart(func() string { return m.body(h.value, nest) })
	return head + "case P0 > " + pick(m.maker, "0", "0", "1", "- 90") + " of false -> " + first + "; true -> " + m.apart(func() string { return m.expr("x", nest-1) }) + ", " + again + " end."
}

// apart: what f binds is forgotten behind it.
func (m *texter) apart(f func() string) string {
	was := map[string]string{}
	for s, kind := range m.bound {
		was[s] = kind
	}
	s := f()
	m.bound = was
	return s
}

func (m *texter) body(kind string, nest int) string {
	out := ""
	for range m.Intn(3) {
		k := m.anyKind()
		out += m.expr(k, nest-1) + ", "
	}
	return out + m.expr(kind, nest)
}

func (m *texter) anyKind() string { return pick(m.maker, "n", "l", "t", "b", "x") }

func (m *texter) leaf(kind string) string {
	var l []string
	for s, k := range m.bound {
		if k == kind || kind == "x" {
			l = append(l, s)
		}
	}
	slices.Sort(l)
	if len(l) > 0 && m.Intn(3) > 0 {
		return pick(m.maker, l...)
	}
	switch kind {
	case "n":
		return pick(m.maker, "0", "1", "2", "3", "7", "10", "4611686018427387903")
	case "l":
		return pick(m.maker, "[]", "[1]", "[2, 1]", "[0, 1, 2]")
	case "t":
		return pick(m.maker, "{1, []}", "{2, [1]}", "{0, [1, 2]}")
	case "b":
		return pick(m.maker, "true", "false")
	}
	return pick(m.maker, "a", `"abc"`, `""`, "{}", "5", "[a, {1}]", "undefined")
}

// expr: an expression of that kind, mostly.
func (m *texter) expr(kind string, nest int) string {
	if nest <= 0 {
		return m.leaf(kind)
	}
	if m.Intn(60) == 0 {
		kind = m.anyKind() // it may fail for badarg
	}
	nest--
	switch n := m.Intn(10); {
	case n == 0:
		return m.apartCase(kind, nest)
	case n == 1:
		return m.equal(kind, nest)
	case n == 2:
		return m.call(kind, nest)
	case n == 3 && m.asks:
		return m.asking(nest)
	case n == 4:
		return m.leaf(kind)
	}
	switch kind {
	case "n":
		return pick(m.maker, m.sum, m.sum, m.sum, m.neg, m.partOf)(nest)
	case "l":
		return m.filled(pick(m.maker, "[n, n]", "[n]", "cons(n, l)", "tl([n, n])", "tl(l)", "elem(2, t)"), nest)
	case "t":
		return m.filled("{n, l}", nest)
	case "b":
		k := m.anyKind()
		return m.filled("("+k+" "+pick(m.maker, signs[5:]...)+" "+k+")", nest)
	}
	return m.filled(pick(m.maker, "{x, n}", "[x, b, l]", "conj(cx(n, n))", "{t}", "(cx(1, 2) * n)"), nest)
}

var kindLetter = regexp.MustCompile(`\b[nltbx]\b`)

// filled: s, with an expression of its kind for each letter.
func (m *texter) filled(s string, nest int) string {
	return kindLetter.ReplaceAllStringFunc(s, func(kind string) string { return m.expr(kind, nest) })
}

func (m *texter) sum(nest int) string {
	return m.filled("(n "+pick(m.maker, "+", "-", "*", "+", "-", "/", "rem")+" n)", nest)
}

func (m *texter) neg(nest int) string { return m.filled("(- n)", nest) }

func (m *texter) partOf(nest int) string {
	return m.filled(pick(m.maker, "len(l)", "len(t)", "hd(l)", "elem(1, t)", "hd([n, n])"), nest)
}

// pattern: of a value of that kind; its names are bound behind it.
func (m *texter) pattern(kind string, nest int) string {
	if nest == 0 || m.Intn(3) == 0 {
		switch m.Intn(8) {
		case 0:
			return "_"
		case 1:
			return m.literal(kind)
		case 2:
			for s, k := range m.bound {
				if k == kind && s == "P0" {
					return s
				}
			}
		}
		m.names++
		s := fmt.Sprint(pick(m.maker, "A", "B", "C"), m.names%6)
		if _, ok := m.bound[s]; !ok {
			m.bound[s] = kind
		}
		return s
	}
	switch kind {
	case "l":
		return m.parts(pick(m.maker, "[]", "[n]", "[n, n]"), nest)
	case "t":
		return m.parts("{n, l}", nest)
	}
	return m.pattern(kind, 0)
}

// parts: s, with a pattern for each letter.
func (m *texter) parts(s string, nest int) string {
	return kindLetter.ReplaceAllStringFunc(s, func(kind string) string { return m.pattern(kind, nest-1) })
}

func (m *texter) literal(kind string) string {
	switch kind {
	case "n":
		return pick(m.maker, "0", "1", "2", "- 1")
	case "l":
		return pick(m.maker, "[]", "[1]", "[1, - 2]")
	case "t":
		return pick(m.maker, "{1, []}", "{0, [1]}")
	case "b":
		return pick(m.maker, "true", "false")
	}
	return pick(m.maker, "a", `"abc"`, "{}")
}

// equal: the pattern's names are bound behind it, for good.
func (m *texter) equal(kind string, nest int) string {
	x := m.expr(kind, nest)
	if m.Intn(4) > 0 {
		m.names++
		s := "N" + itoa(m.names%8)
		if _, ok := m.bound[s]; !ok {
			m.bound[s] = kind
			return "(" + s + " = " + x + ")"
		}
	}
	return "(" + m.pattern(kind, 2) + " = " + x + ")"
}

func (m *texter) apartCase(kind string, nest int) string {
	of := m.anyKind()
	out := "case " + m.expr(of, nest) + " of "
	for range m.Intn(3) {
		out += m.apart(func() string { return m.pattern(of, 2) + " -> " + m.body(kind, nest) + "; " })
	}
	last := pick(m.maker, "_", "_", "_", "Q")
	if m.Intn(6) == 0 {
		last = m.literal(of)
	}
	if _, ok := m.bound["Q"]; ok || last != "Q" {
		return out + m.apart(func() string { return last + " -> " + m.body(kind, nest) }) + " end"
	}
	return out + m.apart(func() string { m.bound["Q"] = of; return "Q -> " + m.body(kind, nest) }) + " end"
}

// call: of a function of that kind, if there is one.
func (m *texter) call(kind string, nest int) string {
	for i := m.from; i < len(m.heads); i++ {
		h := m.heads[i]
		if h.value != kind && kind != "x" || m.Intn(2) == 0 {
			continue
		}
		var args []string
		for k, p := range h.params {
			if k == 0 && p == 'n' {
				args = append(args, pick(m.maker, "0", "1", "2", "3", "5", "20", "97", "98", "99", "100", "200"))
				continue
			}
			args = append(args, m.expr(string(p), nest))
		}
		return h.name + "(" + strings.Join(args, ", ") + ")"
	}
	return m.leaf(kind)
}

func (m *texter) asking(nest int) string {
	switch m.Intn(3) {
	case 0:
		return "(" + m.expr("x", nest) + " ! " + m.expr("x", nest) + ")"
	case 1:
		name := pick(m.maker, builtins[:19]...)
		var args []string
		for range atoi(name[len(name)-1:]) {
			args = append(args, m.expr("x", nest))
		}
		return name[:len(name)-2] + "(" + strings.Join(args, ", ") + ")"
	}
	after := ""
	if m.Intn(3) > 0 {
		after = " after " + m.expr("n", nest) + " -> " + m.apart(func() string { return m.body("x", nest) })
	}
	var l []string
	for range 1 + m.Intn(2) {
		l = append(l, m.apart(func() string { return m.pattern(m.anyKind(), 2) + " -> " + m.body("x", nest) }))
	}
	return "receive " + strings.Join(l, "; ") + after + " end"
}
