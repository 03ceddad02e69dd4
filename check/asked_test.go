package check_test

import (
	"regexp"
	"slices"
	"strings"

	"rookery/api"
)

// What Check must answer, worked out apart from it: what may stand in a tree is
// kept as texts, and what is bound is told by a row of what happens one behind
// the other.

// letters: a kind's letter stands at the place of its number.
const letters = "?iavbtlnjesckrFCBUP"

// shapes: of each kind its letter, the fields that it names, and which letters
// its parts may have. E stands for an expression.
const shapes = `
i N -
a S -
v S -
b B -
t L E*
l L E*
n L E
j SL EE
e L EE
s L EE
c SL E*
k L EC+
r L C+F?|F
F L EB
C L EB
B L E+
U SL v*B
P L U*
`

type shape struct {
	fields string
	parts  *regexp.Regexp
}

var allShapes = readShapes()

func readShapes() map[byte]shape {
	out := map[byte]shape{}
	for _, line := range strings.Split(strings.TrimSpace(shapes), "\n") {
		w := strings.Fields(line)
		parts := strings.ReplaceAll(strings.TrimSuffix(w[2], "-"), "E", "[iavbtlnjesckr]")
		out[w[0][0]] = shape{w[1], regexp.MustCompile("^(" + parts + ")$")}
	}
	return out
}

func letter(kind int) byte {
	if kind < 1 || kind >= len(letters) {
		return letters[0]
	}
	return letters[kind]
}

// flat: the parts, in order, as many as are asked for at most.
func flat(x api.Tree, most int) []api.Tree {
	var out []api.Tree
	left := [][]api.Tree{{x}}
	for len(left) > 0 && len(out) < most {
		last := left[len(left)-1]
		left = left[:len(left)-1]
		if len(last) > 0 {
			out = append(out, last[0])
			left = append(left, last[1:], last[0].L)
		}
	}
	return out
}

var (
	atomForm = regexp.MustCompile(`^[a-z][a-zA-Z0-9_]{0,31}$`)
	wordForm = regexp.MustCompile(`^(case|of|end|receive|after|rem)$`)
	nameForm = regexp.MustCompile(`^[A-Z_][a-zA-Z0-9_]{0,31}$`)
	signForm = regexp.MustCompile(`^(==|/=|<|>|=<|>=|\+|-|\*|/|rem)$`)
)

func shaped(p api.Tree) bool {
	kinds := ""
	for _, x := range p.L {
		kinds += string(letter(x.Kind))
	}
	s, ok := allShapes[letter(p.Kind)]
	if !ok || !s.parts.MatchString(kinds) {
		return false
	}
	for field, set := range map[string]bool{"S": p.S != "", "N": p.N != 0, "B": len(p.B) != 0, "L": len(p.L) != 0} {
		if set && !strings.Contains(s.fields, field) {
			return false
		}
	}
	switch letter(p.Kind) {
	case 'i':
		return p.N >= 0 && p.N < 1<<62
	case 'a', 'c', 'U':
		return atomForm.MatchString(p.S) && !wordForm.MatchString(p.S)
	case 'v':
		return nameForm.MatchString(p.S)
	case 'b':
		return len(p.B) <= 4096
	case 'j':
		return signForm.MatchString(p.S)
	}
	return true
}

// slots: the names in a function.
func slots(f api.Tree) []string {
	var out []string
	if f.Kind != 17 {
		return nil
	}
	seen := map[string]bool{"_": true}
	for _, p := range flat(f, 1<<30) {
		if p.Kind == 3 && !seen[p.S] {
			seen[p.S] = true
			out = append(out, p.S)
		}
	}
	return out
}

// builtinRow: as the chapter writes it.
const builtinRow = "self/0 node/0 near/0 nodes/0 spawn/2 spawn/3 link/1 unlink/1 monitor/1 demonitor/1 exit/1 exit/2 trap/1 register/2 whereis/1 claim/2 find/1 say/1 ref/0 cx/2 conj/1 len/1 elem/2 hd/1 tl/1 cons/2"

// callName: a name and a number of arguments, as the chapter writes builtins.
func callName(name string, args int) string { return name + "/" + string(rune('0'+args)) }

func full(p api.Tree) bool {
	switch letter(p.Kind) {
	case 'P':
		return len(p.L) > 64
	case 'U':
		return len(p.L)-1 > 8 || len(slots(p)) > 64
	case 'c':
		return len(p.L) > 8
	case 't', 'l':
		return len(p.L) > 256
	}
	return false
}

func twice(x api.Tree) bool {
	var funs []string
	for _, f := range x.L {
		funs = append(funs, callName(f.S, len(f.L)-1))
		var params []string
		for _, p := range f.L[:len(f.L)-1] {
			if p.S != "_" {
				params = append(params, p.S)
			}
		}
		if hasTwo(params) {
			return true
		}
	}
	return hasTwo(funs)
}

func hasTwo(l []string) bool {
	for i, s := range l {
		if slices.Contains(l[i+1:], s) {
			return true
		}
	}
	return false
}

// patternForm: of a pattern written by letters, with brackets around parts.
var patternForm = regexp.MustCompile(`^([iavb()tl]|n\(i\))*$`)

func patternShape(x api.Tree) string {
	out := string(letter(x.Kind)) + "("
	for _, p := range x.L {
		out += patternShape(p)
	}
	return strings.ReplaceAll(out+")", "i()", "i")
}

func isPattern(x api.Tree) bool { return patternForm.MatchString(patternShape(x)) }

// happening: a name is bound (+), used (?), or a clause begins and ends.
type happening struct {
	what byte
	name string
}

// happenings: what a part does, one behind the other.
func happenings(x api.Tree) []happening {
	var out []happening
	add := func(l ...[]happening) { out = slices.Concat(append([][]happening{out}, l...)...) }
	within := func(l ...[]happening) {
		add([]happening{{'(', ""}})
		add(l...)
		add([]happening{{')', ""}})
	}
	clauses := func(l []api.Tree) {
		for _, p := range l {
			within(binding(p.L[0]), happenings(p.L[1]))
		}
	}
	switch letter(x.Kind) {
	case 'v':
		return []happening{{'?', x.S}}
	case 'e':
		add(happenings(x.L[1]), binding(x.L[0]))
	case 'k':
		add(happenings(x.L[0]))
		clauses(x.L[1:])
	case 'r':
		n := len(x.L) - 1
		if letter(x.L[n].Kind) == 'C' {
			clauses(x.L)
			break
		}
		add(happenings(x.L[n].L[0]))
		clauses(x.L[:n])
		within(happenings(x.L[n].L[1]))
	default:
		for _, p := range x.L {
			add(happenings(p))
		}
	}
	return out
}

// binding: of a pattern, or of a parameter.
func binding(x api.Tree) []happening {
	var out []happening
	for _, p := range flat(x, 1<<30) {
		if letter(p.Kind) == 'v' && p.S != "_" {
			out = append(out, happening{'+', p.S})
		}
	}
	return out
}

func usesFree(f api.Tree) bool {
	n := len(f.L) - 1
	var names []string
	var begun []int
	for _, h := range append(binding(tuple(f.L[:n]...)), happenings(f.L[n])...) {
		switch h.what {
		case '+':
			names = append(names, h.name)
		case '(':
			begun = append(begun, len(names))
		case ')':
			names = names[:begun[len(begun)-1]]
			begun = begun[:len(begun)-1]
		case '?':
			if !slices.Contains(names, h.name) {
				return true
			}
		}
	}
	return false
}

// asked: what Check must answer.
func asked(x api.Tree) api.Errno {
	parts := flat(x, 4001)
	any := func(so func(api.Tree) bool) bool { return slices.ContainsFunc(parts, so) }
	not := func(so func(api.Tree) bool) func(api.Tree) bool { return func(p api.Tree) bool { return !so(p) } }
	var callable []string
	for _, f := range x.L {
		callable = append(callable, callName(f.S, len(f.L)-1))
	}
	builtins := strings.Fields(builtinRow)
	switch {
	case len(parts) > 4000:
		return 170
	case x.Kind != 18 || any(not(shaped)):
		return 177
	case any(full):
		return 170
	case twice(x):
		return 171
	case slices.ContainsFunc(callable, func(s string) bool { return slices.Contains(builtins, s) }):
		return 172
	case any(func(p api.Tree) bool { return (p.Kind == 9 || p.Kind == 15) && !isPattern(p.L[0]) }):
		return 173
	case slices.ContainsFunc(x.L, usesFree):
		return 174
	case any(func(p api.Tree) bool {
		return p.Kind == 11 && !slices.Contains(append(callable, builtins...), callName(p.S, len(p.L)))
	}):
		return 175
	case !slices.Contains(callable, "main/0"):
		return 176
	}
	return 0
}
