package vm_test

import (
	"strings"
	"testing"

	"rookery/api"
	"rookery/vm"
)

// both: a process, and one that is worked out apart, which are told the same.
type both struct {
	t    testing.TB
	what string
	p    *vm.Proc
	q    *asked
}

// begin: nil, if such a process can't be made.
func begin(t testing.TB, what string, l []api.Fun, fun int, args ...api.Term) *both {
	t.Helper()
	p, e := vm.New(l, fun, args)
	q, want := newAsked(l, fun, args)
	if e != want {
		t.Errorf("P20.1: %s: New of %s, %d, (%s): %d; worked out apart: %d", what, showFuns(l), fun, brief(showAll(args)), e, want)
	}
	if e != api.OK && p != nil {
		t.Errorf("R2: %s: a process beside %d", what, e)
	}
	if e != api.OK || want != api.OK {
		return nil
	}
	return &both{t, what, p, q}
}

// must: begin of what must be right.
func must(t testing.TB, what string, l []api.Fun, fun int, args ...api.Term) *both {
	t.Helper()
	b := begin(t, what, l, fun, args...)
	if b == nil {
		t.Fatalf("P20.1: %s: New of %s, %d, (%s) is refused", what, showFuns(l), fun, brief(showAll(args)))
	}
	return b
}

func (b *both) depth() {
	b.t.Helper()
	if got, want := b.p.Depth(), b.q.Depth(); got != want {
		b.t.Errorf("P20.3: %s: of %s: Depth: %d; worked out apart: %d", b.what, showFuns(b.q.funs), got, want)
	}
}

func (b *both) run() vm.Ask {
	b.t.Helper()
	b.depth()
	got, want := b.p.Run(), b.q.Run()
	if !sameAsk(got, want) {
		b.t.Errorf("P20.2: %s: of %s: Run: %s; worked out apart: %s", b.what, showFuns(b.q.funs), brief(askText(got)), brief(askText(want)))
	}
	b.depth()
	return got
}

// on: the next ask that is none for a turn; one for a turn, if there are too many.
func (b *both) on() vm.Ask {
	b.t.Helper()
	a := b.run()
	for i := 0; a.Kind == vm.AskTurn && i < 1000; i++ {
		a = b.run()
	}
	return a
}

func (b *both) answer(how string, x api.Term) api.Errno {
	b.t.Helper()
	got := answerTo(b.p, how, x)
	if want := b.q.answer(how, x); got != want {
		b.t.Errorf("P20.3: %s: of %s: behind %s: %s %s: %d; worked out apart: %d", b.what, showFuns(b.q.funs), brief(askText(b.p.Run())), how, brief(show(x)), got, want)
	}
	b.depth()
	return got
}

func answerTo(p *vm.Proc, how string, x api.Term) api.Errno {
	switch how {
	case "give":
		return p.Give(x)
	case "pass":
		return p.Pass()
	}
	return p.Fail(x)
}

var howAll = []string{"give", "pass", "fail"}

// refuses: what e is answered to each answer but those that are taken.
func (b *both) refuses(kind int) {
	b.t.Helper()
	for _, how := range howAll {
		for _, x := range []api.Term{read("ok"), {}, read("{V1}")} {
			e := api.ErrVmState
			if takesAnswer(kind, how) {
				if how == "pass" || x.Kind == api.KAtom {
					continue
				}
				e = api.ErrArg
			}
			if got := b.answer(how, x); got != e {
				b.t.Errorf("P20.3: %s: of %s: behind the ask %d: %s %s: %d; want %d", b.what, showFuns(b.q.funs), kind, how, show(x), got, e)
			}
		}
	}
}

// talk: the asks, one by one, each with its answer: "ask < answer". At each place
// all that may not be answered is tried, and what is not answered is asked again.
func (b *both) talk(steps ...string) {
	b.t.Helper()
	b.refuses(0)
	for i, step := range steps {
		want, answer, answered := strings.Cut(step, " < ")
		a := b.run()
		if got := askText(a); got != want {
			b.t.Errorf("P20.2: %s: of %s: the ask %d: %s; want %s", b.what, showFuns(b.q.funs), i, brief(got), brief(want))
			return
		}
		b.refuses(a.Kind)
		if a.Kind != vm.AskTurn {
			for range 2 {
				if got := askText(b.run()); got != want {
					b.t.Errorf("P20.2: %s: of %s: the ask %d, again: %s; want %s", b.what, showFuns(b.q.funs), i, brief(got), brief(want))
				}
			}
			b.refuses(a.Kind)
		}
		if !answered {
			continue
		}
		how, x, _ := strings.Cut(answer, " ")
		t := api.Term{}
		if how != "pass" {
			t = read(x)
		}
		if e := b.answer(how, t); e != api.OK {
			b.t.Errorf("P20.3: %s: of %s: %s: %s: %d; want 0", b.what, showFuns(b.q.funs), brief(want), brief(answer), e)
			return
		}
		b.refuses(0)
	}
}

// wantTalk: of f0, without arguments, of functions as prog reads them.
func wantTalk(t testing.TB, what string, l []string, steps ...string) {
	t.Helper()
	must(t, what, prog(l...), 0).talk(steps...)
}

func wantOne(t testing.TB, what, f string, steps ...string) {
	t.Helper()
	wantTalk(t, what, []string{f}, steps...)
}

// wantText: of a text's main.
func wantText(t testing.TB, what, s string, steps ...string) {
	t.Helper()
	l, main := source(t, s)
	must(t, what, l, main).talk(steps...)
}

// wantValue: an expression, of itself and within others, comes to an end for it,
// or fails for it, as want says.
func wantValue(t testing.TB, what, expr, want string) {
	t.Helper()
	wantText(t, what, "main() -> "+expr+".", want)
	inner := "f() -> X = " + expr + ", X. main() -> "
	wantText(t, what+", in a call", inner+"f().", want)
	value, ok := strings.CutPrefix(want, "end ")
	if !ok {
		wantText(t, what+", among others", inner+"{1, [2, f()], self()}.", want)
		return
	}
	wantText(t, what+", among others", inner+"{1, [2, f()]}.", "end {1,[2,"+value+"]}")
}
