package term

import (
	"bytes"
	"cmp"
	"slices"
	"strings"

	"rookery/api"
	"rookery/num"
)

// kind is what there is to know of terms of one kind: what is left of one
// without the fields that the kind names, whether the value in these may be,
// and the order of two of them.
type kind struct {
	rest  func(t api.Term) api.Term
	may   func(t api.Term) bool
	order func(a, b api.Term) int
}

type kinds [api.KBytes + 1]kind

func makeKinds() *kinds {
	k := new(kinds)
	id := kind{withoutId, idMay, byId}
	k[api.KInt] = kind{withoutN, num.Right, byNumber}
	k[api.KCx] = kind{withoutZ, num.Right, byNumber}
	k[api.KAtom] = kind{withoutS, nameMay, byName}
	k[api.KRef], k[api.KPid] = id, id
	k[api.KTuple] = kind{withoutL, anyMay, k.byLength}
	k[api.KList] = kind{withoutL, anyMay, k.byElements}
	k[api.KBytes] = kind{withoutB, anyMay, byBytes}
	return k
}

// fault: what is wrong with the part p alone, which stands so deep; size is
// that of p's own and of all parts ahead.
func (k *kinds) fault(p *api.Term, deep, size int) api.Errno {
	if deep > api.MaxDeep {
		return api.ErrTermDeep
	}
	if size > api.MaxSize {
		return api.ErrTermSize
	}
	if p.Kind < api.KInt || p.Kind > api.KBytes {
		return api.ErrTermKind
	}
	row := k[p.Kind]
	if !blank(row.rest(*p)) {
		return api.ErrTermField
	}
	if !row.may(*p) {
		return api.ErrTermValue
	}
	if len(p.L) > api.MaxWide {
		return api.ErrTermWide
	}
	return api.OK
}

func blank(t api.Term) bool {
	return t.N == 0 && t.Z == 0 && t.S == "" && t.Id == api.Id{} && len(t.B) == 0 && len(t.L) == 0
}

func withoutN(t api.Term) api.Term {
	t.N = 0
	return t
}

func withoutZ(t api.Term) api.Term {
	t.Z = 0
	return t
}

func withoutS(t api.Term) api.Term {
	t.S = ""
	return t
}

func withoutId(t api.Term) api.Term {
	t.Id = api.Id{}
	return t
}

func withoutB(t api.Term) api.Term {
	t.B = nil
	return t
}

func withoutL(t api.Term) api.Term {
	t.L = nil
	return t
}

func anyMay(api.Term) bool { return true }

func idMay(t api.Term) bool {
	return 1 <= t.Id.Node && t.Id.Node <= api.MaxNode && t.Id.Boot >= 1 && t.Id.N >= 1
}

func nameMay(t api.Term) bool {
	if len(t.S) < 1 || len(t.S) > api.MaxAtom || !lower(t.S[0]) {
		return false
	}
	for i := range len(t.S) {
		if !inName(t.S[i]) {
			return false
		}
	}
	return true
}

func lower(c byte) bool { return 'a' <= c && c <= 'z' }

func inName(c byte) bool {
	return lower(c) || 'A' <= c && c <= 'Z' || '0' <= c && c <= '9' || c == '_'
}

func (k *kinds) order(a, b api.Term) int {
	if a.Kind != b.Kind {
		return cmp.Compare(a.Kind, b.Kind)
	}
	return k[a.Kind].order(a, b)
}

func byNumber(a, b api.Term) int {
	c, _ := num.Cmp(a, b)
	return c
}

func byName(a, b api.Term) int { return strings.Compare(a.S, b.S) }

func byId(a, b api.Term) int {
	return cmp.Or(cmp.Compare(a.Id.Node, b.Id.Node), cmp.Compare(a.Id.Boot, b.Id.Boot), cmp.Compare(a.Id.N, b.Id.N))
}

func byBytes(a, b api.Term) int { return bytes.Compare(a.B, b.B) }

func (k *kinds) byElements(a, b api.Term) int { return slices.CompareFunc(a.L, b.L, k.order) }

func (k *kinds) byLength(a, b api.Term) int {
	if len(a.L) != len(b.L) {
		return cmp.Compare(len(a.L), len(b.L))
	}
	return k.byElements(a, b)
}
