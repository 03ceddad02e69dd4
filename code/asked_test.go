package code_test

import (
	"fmt"
	"math/big"
	"regexp"
	"strconv"
	"strings"

	"rookery/api"
	"rookery/match"
	"rookery/term"
)

// What Check must answer, worked out apart from it: the chapter's table is kept
// as a text, whose words are read anew for each instruction; who is next is
// looked for among all instructions; and heights are whole numbers of any size.

// table: by Op, from 1 on: its fields, what it takes, what it puts, and what may
// be next, with what is put then.
const table = `
T:term           0    next+1
A:slot           0    next+1
-                1    next+0
A:0..256         A    next+1
A:0..256         A    next+1
A:1..11          2    next+1
-                1    next+1
A:ins,T:pattern  1    next+1,A+1
A:ins            0    A+0
A:fun,B:arity    B    next+1
A:fun,B:arity    B    -
-                1    -
A:1..26          args next+1
-                2    next+1
A:1..3           1    -
-                1    next+0
A:ins            0    next+1,A+0
-                1    next+0
-                1    next+0
`

// builtinRow: as chapter 17 writes it.
const builtinRow = "self/0 node/0 near/0 nodes/0 spawn/2 spawn/3 link/1 unlink/1 monitor/1 demonitor/1 exit/1 exit/2 trap/1 register/2 whereis/1 claim/2 find/1 say/1 ref/0 cx/2 conj/1 len/1 elem/2 hd/1 tl/1 cons/2"

var (
	tableLines = strings.Split(strings.TrimSpace(table), "\n")
	builtins   = strings.Fields(builtinRow)
	atomForm   = regexp.MustCompile(`^[a-z][a-zA-Z0-9_]{0,31}$`)
	slotForm   = regexp.MustCompile(`^[VB](0|[1-9][0-9]*)$`)
)

func atoi(s string) int {
	n, err := strconv.Atoi(s)
	if err != nil {
		panic("asked: no number: " + s)
	}
	return n
}

// line: what the table says of an instruction: fields, takes, next ones.
func line(in api.Ins) (fields map[string]string, takes string, next []string) {
	w := strings.Fields(tableLines[in.Op-1])
	fields = map[string]string{}
	for _, s := range strings.Split(w[0], ",") {
		name, what, _ := strings.Cut(s, ":")
		fields[name] = what
	}
	return fields, w[1], strings.Split(strings.Trim(w[2], "-"), ",")
}

// slotNumber: -1 of a text that is no slot's name.
func slotNumber(s string) int {
	if !slotForm.MatchString(s) || len(s) > 3 || atoi(s[1:]) > 71 {
		return -1
	}
	return atoi(s[1:])
}

func patternOfSlots(p api.Term, slots int) bool {
	if match.Check(p) != api.OK {
		return false
	}
	for part := range term.Each(p) {
		if n := slotNumber(part.S); part.Kind == api.KVar && (n < 0 || n >= slots) {
			return false
		}
	}
	return true
}

func within(n, from, to int) bool { return from <= n && n <= to }

// fieldsAsked: is an instruction as the table says, whatever it leads to?
func fieldsAsked(f api.Fun, in api.Ins) bool {
	if !within(in.Op, 1, len(tableLines)) {
		return false
	}
	fields, _, _ := line(in)
	switch a := fields["A"]; {
	case a == "" && in.A != 0, a == "slot" && !within(in.A, 0, f.Slots-1):
		return false
	case strings.Contains(a, ".."):
		from, to, _ := strings.Cut(a, "..")
		if !within(in.A, atoi(from), atoi(to)) {
			return false
		}
	}
	switch fields["T"] {
	case "term":
		return in.B == 0 && term.Check(in.T) == api.OK
	case "pattern":
		return in.B == 0 && patternOfSlots(in.T, f.Slots)
	}
	t := in.T
	empty := t.Kind == 0 && t.N == 0 && t.Z == 0 && t.S == "" && t.Id.Node == 0 && t.Id.Boot == 0 && t.Id.N == 0 && len(t.B)+len(t.L) == 0
	return empty && (in.B == 0 || fields["B"] != "")
}

func leadsRight(l []api.Fun, f api.Fun, in api.Ins) bool {
	fields, _, _ := line(in)
	switch fields["A"] {
	case "ins":
		return within(in.A, 0, len(f.Ins)-1)
	case "fun":
		return within(in.A, 0, len(l)-1) && l[in.A].Arity == in.B
	}
	return true
}

// takesAsked: how many values an instruction takes.
func takesAsked(in api.Ins) int64 {
	_, takes, _ := line(in)
	switch takes {
	case "A":
		return int64(in.A)
	case "B":
		return int64(in.B)
	case "args":
		_, n, _ := strings.Cut(builtins[in.A-1], "/")
		return int64(atoi(n))
	}
	return int64(atoi(takes))
}

// heights: of a function's instructions, none of which is wrong by itself; or
// the instruction at which something is wrong.
func heights(l []api.Ins) (out []int, at int, ok bool) {
	out = make([]int, len(l))
	done := make([]bool, len(l))
	for i := range out {
		out[i] = -1
	}
	out[0] = 0
	for i := 0; i < len(l); {
		if out[i] < 0 || done[i] {
			i++
			continue
		}
		done[i] = true
		lowest := i
		_, _, next := line(l[i])
		rest := new(big.Int).Sub(big.NewInt(int64(out[i])), big.NewInt(takesAsked(l[i])))
		if rest.Sign() < 0 {
			return nil, i, false
		}
		for _, way := range next {
			if way == "" {
				continue
			}
			where, puts, _ := strings.Cut(way, "+")
			height := new(big.Int).Add(rest, big.NewInt(int64(atoi(puts))))
			to := i + 1
			if where == "A" {
				to = l[i].A
			}
			if height.Cmp(big.NewInt(300)) > 0 || to >= len(l) || out[to] >= 0 && out[to] != int(height.Int64()) {
				return nil, i, false
			}
			out[to] = int(height.Int64())
			lowest = min(lowest, to)
		}
		i = lowest
	}
	return out, 0, true
}

// asked: what Check must answer.
func asked(l []api.Fun) (fun, ins int, e api.Errno) {
	if !within(len(l), 1, 64) {
		return 0, 0, 180
	}
	met := map[string]int{}
	for i, f := range l {
		if !atomForm.MatchString(f.Name) || !within(f.Arity, 0, 8) || !within(f.Slots, f.Arity, 72) {
			return i, 0, 182
		}
		name := fmt.Sprint(f.Name, "/", f.Arity)
		if met[name]++; met[name] > 1 {
			return i, 0, 181
		}
		if !within(len(f.Ins), 1, 4000) {
			return i, 0, 180
		}
		for j, in := range f.Ins {
			if !fieldsAsked(f, in) {
				return i, j, 183
			}
			if !leadsRight(l, f, in) {
				return i, j, 184
			}
		}
		if _, at, ok := heights(f.Ins); !ok {
			return i, at, 185
		}
	}
	return 0, 0, 0
}
